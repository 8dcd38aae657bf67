import PyProof.Rows.All
import Wide.All
import OpenK.AllK
import Wide.FinOn
import Lean
import PyProof.EqAt
import PyProof.EqKinds
import PyProof.TupleCall
import KE.KLam
import PyProof.WalksEnum
import PyProof.EnumMake
import PyProof.Rows.SortWalk
import PyProof.Rows.SetFrom
import PyProof.SetRoads
import PyProof.DictTable
import PyProof.ListRange
import PyProof.DictWalks
import PyProof.DictUpdate
import KE.KSortTup
import KE.KDictSum
import KE.KSortKey
import KE.KDictOf
import PyProof.DictItemsLoops
import KE.KPairComp
import PyProof.ZipIter
import PyProof.Draws
import PyProof.IsiBase
import PyProof.AttrMiss
import KE.KDictList
import PyProof.TupleOfGen
import PySem.Challenge.RW_probewell_k45_stuck_is_shut
set_option Elab.async false
set_option linter.all false
set_option maxRecDepth 100000
set_option compiler.extract_closed false
set_option bootstrap.genMatcherCode false
noncomputable section
open Option renaming some->cz,none->p4
open Bool renaming true->rp,false->xn
open PySem renaming wpAny_bind->ab,wpAny_pure->ah,Value->aj,starEach->ao,Shared->aq,Addr->au,wpAny->aG,model->aT,sizeLine->aV,PyData->br,Program->bA,Str->bI,Around->bL,compareOp->bU,mainGlobals->bV,World->bX,Heap->cf,mem_of_lookup->cu,wpAny_holding->cx,backTo->cC,wpAny_call_entry->cD,eval->cG,sizeLine_eq->cJ,wpAny_dictEntries->cK,wpAny_callSpecial?_slot->cN,wpAny_field->cZ,wpAny_mono->de,sysModules->df,cLine->du,attributeBase->dC,foldedSetIterable->dF,FuncData->dR,wpAny_seqItems->dZ,wpAny_specialOf->eu,wpAny_truthy_bool->eK,wpAny_newObj_type->eL,codeAny_builtin->eR,intKind->eU,swapsWith->eX,DictEntry->eY,behindInMarks->fq,binaryOp->fA,Paired->fB,Pos->fQ,wpAny_setField_rec->fU,wpAny_Call_Name_kw->fV,rawInt->fW,wpAny_notOrdered_dict->gf,wpAny_rule->gw,plainId_quiet->gx,Obj->gE,wpAny_typeNameOfWhole_keyiter->gH,Scope->gJ,bootBuiltins->gL,wpAny_passesOwn->gO,wpAny_isInstance->ix,Stmt->iz,Keyword->iE,wpAny_typeNameOf_keyiter->iO,codeAny->iZ,assignEach->jd,wpAny_Call_method0_late->je,wpAny_typeOf->jw,codeAny_mono->jx,ReadsAll->jz,NameKind->jC,evalArgs_none->jO,IsPair->j_,sliceBounds->ke,keywordEach->kg,wpAny_ite_split->kA,wpAny_dictEpoch->kB,TriplesOk->kY,PassesOwn->kZ,pyNext->k_,builtinsNs->lg,wpAny_attempt->lV,dictSetHashed->lZ,codeAmong->mL,Arguments->mQ,relabel->mT,wpAny_execs_nil->ni,letOwnedTupleGo->nk,wpAny_updateDictKeys->nX,wpAny_setField->nY,wpAny_letGo->nZ,firstArgMember->oG,callType_codes->oH,backToKw->oI,IsZip->oW,callerA->oZ,BindsTo->o_,field->pU,Env->pZ,wpAny_pyIter_tuple->qd,closureFor->qA,assign->qB,holding->rd,getItem->rF,bindArgs->rH,ItemsOf->rQ,wpAny_eqBool_int->sg,noFill_tuple_add->sj,isTrue->so,unsupported->tF,subscripted->tG,wpAny_updateSeq->uv,wpAny_ret_mkInt->uw,wpAny_runValue->vV,wpAny_newTuple->vW,wpAny_load->vX,typeLookup->vZ,truthy->v_,dictSetDefault->xJ,Sem->yK,wpAny_pendingCount_other->yS,wpAny_onRaise->yT,wpAny_comprehension_free->yU,seq_tuple_add->yW,rangeSize_one->yZ,call->AV,wpAny_callSpecial?_none->Bf,bindL->CS,bindC->CT,wpAny_Call_method_late->Dp,dictSet->GG,concat_meets->GH,call_meetsIn->GJ,wpAny_isOneOf_keyiter->Hd,builtinLookup_eq_fast->Ii
open PySem.W renaming Frag->ae,kia_one->cW,kla_obj->fu,kitOne->fM,keepIn->gj,fnOf->gC,CodeHd->gQ,nsIn->gZ,envX->jX,findIn->kn,mg_of->kO,codeIn->mM,kas_item->mW,methodObj->oN,kitx_list->oO,kitx_dict->oP,instObj->qC,OpenLaw->qD,lookIn->rK,cellsFrom_some->vt,kitx_tuple->AW,callWith_K->AX,specialIn->CV,plainGet->GQ
open PySem.Heap renaming get?_push_of_some->af,get?_push_size->aL,lt_size->aM,get?_update_self->c_,SameBut->dH,get?_update_other->gM,size_push->ip,size_update->ti
open List renaming length_map->ag,getElem?_eq_getElem->ai,mem_singleton->ak,mem_cons_self->av,mem_cons_of_mem->aw,mem_append_right->ax,mem_append->az,map_cons->aA,getD_eq_getElem?_getD->aB,mem_cons->aF,getElem?_eq_some_iff->aN,mem_append_left->aO,map_append->aQ,replicate->aS,range->aU,getElem?_map->aZ,length_append->a_,length_cons->ba,append_assoc->bg,nodup_append->bh,mem_map->bj,count_append->bu,cons_append->bw,size_toArray->bx,mem_of_getElem?->bz,nodup_cons->bB,all_eq_true->bD,mem_filter->bG,nodup_nil->bJ,append_nil->bM,map_map->bN,mem_map_of_mem->bO,mem_iff_getElem?->bS,length_take->bT,mem_range->cw,nil_append->cA,drop_eq_getElem_cons->cB,any_eq_false->cI,map_congr_left->cL,nodup_iff_count->cO,map_nil->cV,getElem?_append_right->cY,getElem?_set_ne->dg,getElem_mem->dt,length_range->dB,count_pos_iff->dG,count_cons->dI,length_filter_le->dO,length_zip->dS,count_eq_zero->dY,not_mem_nil->eh,any_eq_true->er,getElem?_set_self->eD,getElem?_append_left->eJ,zip_cons_cons->eN,mem_filterMap->eO,pairwise_singleton->eZ,filter_cons_of_pos->e_,filter_cons_of_neg->fg,getElem_map->fI,pairwise_cons->fN,filter_append->fO,pairwise_append->f_,lookup_cons->gn,length_eq_zero_iff->gq,length->gA,length_replicate->gF,getElem?_eq_none->gG,mem_iff_getElem->gR,count_cons_self->gS,map_id'->g_,length_drop->hJ,sublist_append_right->hU,replicate_zero->h_,getElem?_range->ic,sublist_append_left->il,of_mem_zip->ir,find?_cons->iu,set_cons_succ->iB,find?_eq_none->iC,take_succ_eq_append_getElem->iW,take_of_length_le->iX,take_append_drop->ji,drop_length->jr,forIn_cons->jJ,replicate_succ->jP,set_cons_zero->kr,forIn_nil->ku,pairwise_iff_getElem->kE,getElem?_zip_eq_some->kF,extract_eq_take_drop->kG,exists_mem_of_ne_nil->kH,reverse_cons->kJ,ext_getElem?->kK,any_cons->kU,take_length->lr,mem_reverse->lx,set_set->lH,filter_eq_nil_iff->lI,filterMap_cons->ng,getElem?_drop->nN,pairwise_map->oU,zipIdx_cons->pL,zip_append->qF,foldl_cons->qG,take_zero->rM,perm_ext_iff_of_nodup->rN,perm_append_singleton->rO,mem_of_find?_eq_some->sf,set_comm->sX,getElem?_take_of_lt->sY,find?_range_eq_some->sZ,getElem?_replicate->uq,length_pos_of_mem->vw,pairwise_reverse->vO,getElem?_reverse->vP,contains_iff_mem->vQ,length_reverse->yL,zip_nil_left->C_,getElem_take->Dc,getElem_drop->Dd,find?_isSome->De,filter_congr->Df,range'_succ->GV,map_reverse->GW,map_fst_zip->GX,filter_cons->GY,ext_getElem->GZ,zipIdx_nil->Im,find?_some->Io,filter_nil->Ip
open Bool renaming and_eq_true->ar,false_ne_true->bo,false_eq_true->bF,eq_iff_iff->dJ,not_eq_true'->fm,not_true->fH,eq_false_iff->gc,and_self->gg,or_eq_true->iw,beq_eq_decide_eq->jj,and_true->ju,true_and->ny,false_bne->rR,false_or->tw,or_eq_true_iff->yQ
open Nat renaming le_refl->ay,lt_of_lt_of_le->bH,ne_of_lt->bK,zero_le->cj,le_trans->cU,lt_irrefl->dQ,le_of_lt->eB,lt_or_ge->eS,ne_of_gt->fD,lt_trans->fZ,lt_of_le_of_lt->iA,le_succ->jB,sub_self->jY,min_self->jZ,min_eq_left->lR,add_assoc->nu,lt_succ_of_lt->oQ,le_succ_of_le->oR,add_zero->oS,le_add_right->pK,min_le_left->qE,zero_lt_succ->GS,lt_succ_self->GU
open Array renaming length_toList->aD,getElem?_eq_getElem->bt,getElem?_toList->bE,getElem_toList->bY,toList_push->b_,getElem_extract->dP,mem_toList_iff->et,getD_eq_getD_getElem?->fE,perm_iff_toList_perm->fP,getElem?_eq_none->gD,toList_extract->gU,getElem?_eq_some_iff->gW,ext'->iF,append_empty->iG,toArray_toList->jE,append_assoc->kz,getElem_mem_toList->kW,toList_reverse->mP,toList_append->nh,size_extract->nO,forIn_toList->nQ,push_eq_append_singleton->pO,toList->vA,getD->Bb
open PySem.PyData renaming eqv->aH,int->aJ,canLayAll0->bp,eqvAll->cR,canLay0->dA,bool->dE,depthAll->dM,list->dX,depth->gk,tuple->jA,none->ko
open Option.some renaming inj->aK,injEq->CW
open PyProof.Rows renaming wpS_bind->aP,wpS_pure->aX,arrOf->aY,Keyed->bR,pendingOf->cy,SortSt->dh,wpS_forRange->dD,step_dedup->ef,SortKind->eW,callWith_type1->fC,wpS_mono->gd,failedOf->gv,envOfC->jM,firstMet->me,IntsAre->mN,wpS_modify->mR,seqObj->mS,wpS_get->nz,mirror->nR,entry_proto_collect'->nW,entry_list_iadd'->pY,AllBare->p_,boot_range->um,wpS->uu
open PySem.Value renaming none->bb,ref->be,type->ie,int->iy,bool->jW,isInt->kl,str->sT,builtin->AS
open Option renaming bind_some->bC,map_eq_some_iff->eA,isSome_iff_exists->ij,getD_none->GR,map_some->Ik
open Or renaming inr->bP,inl->cg
open Int renaming toNat_natCast->bQ,emod_nonneg->dU,emod_lt_of_pos->eQ,toNat_of_nonneg->jQ,natCast_mul->lS,natCast_add->qH
open PySem.PassesOwn renaming never->bZ
open PySem.Builtin.SmallTypes renaming ownedTupleIsFree->cm,nextOf->cE,ownedTupleHandOut->pM
open PyProof.Rows.KeyOrd renaming kle_of_klt->cH,kle_trans->cX,kle_refl->eH,klt_of_klt_of_kle->fK
open False renaming elim->cP
open PySem.Paired renaming length->cS
open PySem.Around renaming under_plainId->dm
open PySem.Str renaming ofString->dq
open Ne renaming symm->dN
open ForInStep renaming yield->dW
open PySem.Builtin.List renaming listExtendWith->eE,listLengthHint->vS,listSameRef->A_,listItems->Hb
open PySem.Heap.SameBut renaming update->eM
open PySem.Builtin.Tuple renaming tupleHashOf->eV,tupleExact->AZ
open PySem.Builtin.Range renaming rangeSize->fF,small->pN
open PySem.Builtin.Dict renaming updateFrom->fG,mergeDict->jD,showsAll->jR,selfAndRest->mh,entriesForEmpty->vz,readDirectly->yO,pendingCount->yP,addKeywords->Ba
open PySem.F renaming slot_dict_keyiterator_next->fJ,slot_dict_values->ig,slot_tuple_iterator_next->iq,plainAttrs_list->iJ,plainAttrs_dict->iK,slot_dict_len->i_,type_list_append->kP,slot_list_append->kS,args_tuple_add_2->kT,entry_tuple_add->lj,slot_tuple_add->lF,slot_tuple_hash->lU,slot_zip_getattribute->mO,slot_zip_next->nv,args_dict_values_1->rL,slot_list_reverse->r_,slot_dict_getitem->sd,entry_dict_values->se,type_dict_values->sU,slot_dict_update->sV,slot_dict_iter->tm,args_dict_keyiterator_next_1->tu,slot_dict_items->uj,plain_list_iadd->uk,entry_dict_keyiterator_next->ur,args_tuple_iterator_next_1->vx,entry_tuple_iterator_next->vR,called_tuple->xS
open PySem.Calls renaming callWith_builtin->fR,evalArgs_plain->oX,Name_function_global->xT,call_function_entry->yN
open PySem.NameKind renaming free->fT
open PySem.Obj renaming mapSeq->fY,data_mapDictKeys->ik,isFreed_of_dict->iM,data_mapFields->ll,data_mapDict->sW,isFreed_of_fields->Il
open List.Perm renaming refl->gT,append_left->mf,swap->rP,eq_of_pairwise->s_,of_eq->Iq
open List.cons renaming injEq->jK
open True renaming intro->km
open List.Pairwise renaming nil->kL,of_map->xR,map->Dg
open PUnit renaming unit->lG
open Sum renaming inr->oK,inl->oM
open List.Sublist renaming refl->oV
open PySem.SeqAt.ReadsAll renaming length->pX
open PySem.Builtin.Dict_items renaming ownsTuple->vy
open PySem.MeetsSeq3 renaming plain_eq_loop->xY
open PySem.Shared renaming TypeIs->AU
open Array.Perm renaming refl->Ir
def aC:=@if_pos
def aE:=@decide_eq_true
def aI:=@if_neg
def aR:=@of_decide_eq_true
def aW:=@decide_eq_false
def bW:=@decide_eq_true_eq
def dw:=@if_false
def d_:=@congrArg
def gi:=@decide_eq_false_iff_not
def gY:=@beq_self_eq_true
def hZ:=@beq_eq_false_iff_ne
def jt:=@if_true
def rJ:=@beq_iff_eq
def zd:=@of_decide_eq_false
def CQ:=@bne_self_eq_false
namespace L2
open PySem PySem.Spec PyProof.Rows
abbrev Key:=Sum Int bI
def b5U:Key->aj->Bool
  |.inl k,v=>kl k v
  |.inr x,v=>aj.isStrOf x v
def c0C(w:bX):Key->Int
  |.inl k=>hashInt k
  |.inr x=>hashStr w x
def u6:∀{k:Key} {v:aj},b5U k v=rp->(∃i t,k=oM i/\v=iy i t)\/(∃x t,k=oK x/\v=sT x t)
  |.inl i,v,h=>by
    obtain⟨t,e⟩:=aj.isInt_shape (k:=i) (v:=v) h;exact .inl ⟨i,t,rfl,e⟩
  |.inr x,v,h=>by
    obtain⟨t,e⟩:=aj.isStrOf_shape (x:=x) (v:=v) h;exact .inr ⟨x,t,rfl,e⟩
def b6t(a b:Int):decide ((oM a:Key)=oM b)=(a==b):=by
  by_cases e:a=b
  · subst e;simp
  · have h:¬ (oM a:Key)=oM b:=λq=>e (oM.inj q)
    rw[aW h];exact (hZ.mpr e).symm
def b6u(a b:bI):decide ((oK a:Key)=oK b)=decide (a=b):=by
  by_cases e:a=b
  · subst e;simp
  · have h:¬ (oK a:Key)=oK b:=λq=>e (oK.inj q)
    rw[aW h,aW e]
def b6v(a:Int)(b:bI):decide ((oM a:Key)=oK b)=xn:=aW (λq=>nomatch q)
def b6w(a:bI)(b:Int):decide ((oK a:Key)=oM b)=xn:=aW (λq=>nomatch q)
def a5c(prog:bA)(w:bX):PySem.KeyKind prog w Key where
  is:=b5U
  hash:=c0C w
  inj:=λv a b ha hb=>by
    rcases u6 ha with⟨i,t,rfl,rfl⟩|⟨x,t,rfl,rfl⟩
    · rcases u6 hb with⟨j,u,rfl,e⟩|⟨y,u,rfl,e⟩
      · injection e with e1 _;rw[e1]
      · exact nomatch e
    · rcases u6 hb with⟨j,u,rfl,e⟩|⟨y,u,rfl,e⟩
      · exact nomatch e
      · injection e with e1 _;rw[e1]
  byValue:=λk v h=>by
    rcases u6 h with⟨i,t,rfl,rfl⟩|⟨x,t,rfl,rfl⟩<;>rfl
  pyHash:=λhv h=>by
    rcases u6 hv with⟨i,t,rfl,rfl⟩|⟨x,t,rfl,rfl⟩
    · exact wpAny_pyHash_int h
    · exact wpAny_pyHash_str h
  eqBool:=λhu hv h=>by
    rcases u6 hu with⟨i,t,rfl,rfl⟩|⟨x,t,rfl,rfl⟩
    · rcases u6 hv with⟨j,u,rfl,rfl⟩|⟨y,u,rfl,rfl⟩
      · rw[b6t]at h;exact sg h
      · rw[b6v]at h;exact SeqAt.EqAt.int_str i t y u _ _ _ _ h
    · rcases u6 hv with⟨j,u,rfl,rfl⟩|⟨y,u,rfl,rfl⟩
      · rw[b6w]at h;exact SeqAt.EqAt.str_int x t j u _ _ _ _ h
      · rw[b6u]at h;exact wpAny_eqBool_str h
  «strs»:=λk x t v h=>by
    rcases u6 h with⟨i,u,rfl,e⟩|⟨y,u,rfl,e⟩
    · exact nomatch e
    · injection e with e1 _
      subst e1;cases v<;>rfl
inductive V where
  |non|bl (b:Bool)|int (i:Int)|str (x:bI)|byt (b:Array UInt8)|flt (b:UInt64)|ref (a:au)|ty (n:String)
  deriving DecidableEq
def RelV:V->aj->Prop
  |.non,u=>u=bb
  |.bl b,u=>u=jW b
  |.int i,u=>∃t,u=iy i t
  |.str x,u=>∃t,u=sT x t
  |.byt b,u=>∃t,u=aj.bytes b t
  |.flt b,u=>∃t,u=aj.float b t
  |.ref a,u=>u=be a
  |.ty n,u=>u=ie n
abbrev Vals:List V->List aj->Prop:=fB RelV
theorem Vals.length{xs:List V}{us:List aj}(r:Vals xs us):xs.length=us.length:=cS r
theorem Vals.get:∀{xs:List V} {us:List aj} {i:Nat} {x:V},Vals xs us->xs[i]?=cz x->∃u,us[i]?=cz u/\RelV x u
  |_,_,_,_,.nil,e=>by simp at e
  |_,_,0,_,.cons r _,e=>by simp at e;subst e;exact⟨_,rfl,r⟩
  |_,_,i+1,x,.cons _ t,e=>by
    obtain⟨u,h1,h2⟩:=Vals.get (i:=i) (x:=x) t (by simpa using e);exact⟨u,by simpa using h1,h2⟩
theorem Vals.append:∀{xs ys:List V} {us ws:List aj},Vals xs us->Vals ys ws->Vals (xs++ys) (us++ws)
  |_,_,_,_,.nil,s=>s
  |_,_,_,_,.cons r t,s=>.cons r (Vals.append t s)
theorem Vals.take:∀{xs:List V} {us:List aj} (n:Nat),Vals xs us->Vals (xs.take n) (us.take n)
  |_,_,0,_=>.nil
  |_,_,_+1,.nil=>.nil
  |_,_,n+1,.cons r t=>.cons r (Vals.take n t)
theorem Vals.drop:∀{xs:List V} {us:List aj} (n:Nat),Vals xs us->Vals (xs.drop n) (us.drop n)
  |_,_,0,r=>r
  |_,_,_+1,.nil=>.nil
  |_,_,n+1,.cons _ t=>Vals.drop n t
def b6x:Option V->Option aj->Prop
  |some v,cz u=>RelV v u
  |none,p4=>True
  |_,_=>False
def KV{κ:Type}:List (κ×V)->List (κ×aj)->Prop:=fB λ(p:κ×V) (q:κ×aj)=>p.1=q.1/\RelV p.2 q.2
def kV:Key->V
  |.inl i=>.int i
  |.inr x=>.str x
inductive HO where
  |lst (xs:List V)
  |tup (xs:List V)
  |dK (kvs:List (Key×V))|dT (kvs:List (List Key×V))
  |set (S:Int->Bool) (n:Nat)
  |ins (C dx:au) (fs:List (bI×V))
  |own (x:au)
  |xd (fs:List (bI×V))
  |met (f x:au)
  |rng (lo hi:Int)
  |frz (o:gE) (u:HO)
  |tbl (ps:Array aj)
  |ext (φ:cf->Prop)
abbrev Hp:=au->Option HO
def upd(H:Hp)(a:au)(o:HO):Hp:=λb=>if b=a then cz o else H b
def g9{H:Hp}{a:au}{o:HO}:upd H a o a=cz o:=by unfold upd;rw[aC rfl]
def f7{H:Hp}{a b:au}{o:HO}(h:b≠a):upd H a o b=H b:=by unfold upd;rw[aI h]
def b3S:upd (upd H a o) a u=upd H a u:=by
  funext b;unfold upd;split<;>rfl
def m8{H:Hp}{a b:au}{o:HO}(h:H a=cz o)(h':H b=p4):a≠b:=by
  intro e;subst e;rw[h]at h';cases h'
def Pin(a:au):HO->Prop
  |.tup _=>True
  |.frz _ (.own b)=>b=a
  |_=>False
abbrev b8P(a:au):={u:HO // Pin a u}
def a6f(H:Hp)(h:cf)(a:au)(qs:Array aj):Prop:=
  ∃ps:Array aj,h.get? a=cz {cls:=.none,data:=.fields ps}/\kY ps.toList/\∀(pos:fQ) (cv:aj),mL pos ps.toList=cz cv->
    ∃c' oc vs q t t',cv=.ref c'/\H c'=cz (.frz oc (.own a))/\oc.data=.fields vs/\vs[1]?=cz (.str q t)/\qs[0]?=cz (.str q t')
section
variable (P:bA)(w:bX)
def ObjOk(H:Hp)(h:cf)(a:au):HO->Prop
  |.lst xs=>xs.length<=aV/\∃(cQ:List aj) (n:Nat),Vals xs cQ/\h.get? a=cz {cls:=.type "list",data:=.seq cQ.toArray n}
  |.tup xs=>xs.length<=aV/\∃cQ:List aj,Vals xs cQ/\IsTup h a cQ.toArray
  |.dK kvs=>kvs.length<=aV/\(a==df)=xn/\∃vs,KV kvs vs/\h.DictOf (a5c P w) a vs
  |.dT kvs=>kvs.length<=aV/\(a==df)=xn/\∃xs:List (List Key×au×aj),
      fB (λ(p:List Key×V) (q:List Key×au×aj)=>p.1=q.1/\H q.2.1=cz (.tup (p.1.map kV))/\RelV p.2 q.2.2) kvs xs/\
      ∃o es ep,h.get? a=cz o/\o.ExactDict/\o.data=.dict es ep/\es.toList=xs.map (entryOfKey (tupleKind (a5c P w)))/\(xs.map (·.1)).Nodup
  |.set S n=>h.SetOf (eU P w) a S n
  |.ins C dx fs=>H dx=cz (.own a)/\fs.length<=1000/\dx≠a/\h.get? a=cz (qC C dx)/\
      ∃mA,h.Ns1 dx mA/\(∀f,b6x (fs.lookup f) (mA f))/\PySem.Within mA (fs.map (·.1))
  |.own _=>∃o,h.get? a=cz o
  |.xd fs=>∃mA,h.Ns1 a mA/\∀f,b6x (fs.lookup f) (mA f)
  |.rng lo hi=>∃t u v,h.get? a=cz {cls:=.type "range",data:=.fields #[.int lo t,.int hi u,.int 1 v]}
  |.frz o u=>h.get? a=cz o/\ObjOk H h a u
  |.tbl ps=>a6f H h a ps
  |.met f x=>h.get? a=cz (oN (.ref f) (.ref x))
  |.ext φ=>φ h/\(∃o,h.get? a=cz o)/\∀h1 h2:cf,φ h1->(∀o,h1.get? a=cz o->h2.get? a=cz o)->φ h2
def HOk(H:Hp)(h:cf):Prop:=∀a o,H a=cz o->ObjOk P w H h a o
end
section
variable {P:bA}{w:bX}{H H':Hp}{h h':cf}{a:au}{o:HO}
theorem ObjOk.lt(x:ObjOk P w H h a o):a<h.objs.size:=by
  cases o with
  |lst xs=>obtain⟨_,_,_,_,e⟩:=x;exact aM e
  |tup xs=>obtain⟨_,_,_,p⟩:=x;exact p.lt
  |dK kvs=>obtain⟨_,_,_,_,o,_,_,e,_⟩:=x;exact aM e
  |dT kvs=>obtain⟨_,_,_,_,o,_,_,e,_⟩:=x;exact aM e
  |set S n=>obtain⟨o,_,_,_,e,_⟩:=x;exact aM e
  |ins C dx fs=>obtain⟨_,_,_,e,_⟩:=x;exact aM e
  |own y=>obtain⟨_,e⟩:=x;exact aM e
  |xd fs=>obtain⟨_,⟨_,_,_,e,_⟩,_⟩:=x;exact aM e
  |rng lo hi=>obtain⟨_,_,_,e⟩:=x;exact aM e
  |frz ob u=>obtain⟨e,_⟩:=x;exact aM e
  |tbl ps=>obtain⟨_,e,_⟩:=(show a6f H h a ps from x);exact aM e
  |met f y=>exact aM (show h.get? a=cz _ from x)
  |ext φ=>obtain⟨_,⟨_,e⟩,_⟩:=x;exact aM e
theorem Paired.mapP:∀{l₁:List α} {l₂:List β},fB F l₁ l₂->(∀a b,F a b->G a b)->fB G l₁ l₂
  |_,_,.nil,_=>.nil
  |_,_,.cons r t,f=>.cons (f _ _ r) (Paired.mapP t f)
def ObjOk.stay(x:ObjOk P w H h a o)(k:∀b u,(b=a\/H b=cz (.own a))->h.get? b=cz u->h'.get? b=cz u)
    (ho:∀b,H b=cz (.own a)->H' b=cz (.own a)) (ht:∀b (u:b8P a),H b=cz u.1->H' b=cz u.1):ObjOk P w H' h' a o:=by
  induction o with
  |lst xs=>obtain⟨z,cQ,n,r,e⟩:=x;exact⟨z,cQ,n,r,k _ _ (.inl rfl) e⟩
  |tup xs=>obtain⟨z,cQ,r,ob,e,c⟩:=x;exact⟨z,cQ,r,ob,k _ _ (.inl rfl) e,c⟩
  |dK kvs=>obtain⟨z,y,vs,r,ob,es,ep,e,c⟩:=x;exact⟨z,y,vs,r,ob,es,ep,k _ _ (.inl rfl) e,c⟩
  |dT kvs=>
    obtain⟨z,y,xs,r,ob,es,ep,e,c⟩:=x;exact⟨z,y,xs,Paired.mapP r λp q z=>⟨z.1,ht _ ⟨.tup _,trivial⟩ z.2.1,z.2.2⟩,ob,es,ep,k _ _ (.inl rfl) e,c⟩
  |set S n=>obtain⟨ob,es,ep,t,e,c⟩:=x;exact⟨ob,es,ep,t,k _ _ (.inl rfl) e,c⟩
  |ins C dx fs=>
    obtain⟨d,z,ne,e,mA,⟨od,es,ep,e2,c⟩,r⟩:=x;exact⟨ho _ d,z,ne,k _ _ (.inl rfl) e,mA,⟨od,es,ep,k _ _ (.inr d) e2,c⟩,r⟩
  |own y=>obtain⟨ob,e⟩:=x;exact⟨ob,k _ _ (.inl rfl) e⟩
  |xd fs=>obtain⟨mA,⟨od,es,ep,e,c⟩,r⟩:=x;exact⟨mA,⟨od,es,ep,k _ _ (.inl rfl) e,c⟩,r⟩
  |rng lo hi=>obtain⟨t,u,v,e⟩:=x;exact⟨t,u,v,k _ _ (.inl rfl) e⟩
  |frz ob u ih=>obtain⟨e,q⟩:=x;exact⟨k _ _ (.inl rfl) e,ih q⟩
  |tbl ps=>
    obtain⟨qs,e,t,f⟩:=(show a6f H h a ps from x);refine⟨qs,k a _ (.inl rfl) e,t,λpos cv z=>?_⟩;obtain⟨c,oc,vs,q,t1,t2,z1,z2,z3,z4,z5⟩:=f pos cv z;exact⟨c,oc,vs,q,t1,t2,z1,ht c ⟨.frz _ (.own a),rfl⟩ z2,z3,z4,z5⟩
  |met f y=>
    have e:h.get? a=cz (oN (.ref f) (.ref y)):=x;show h'.get? a=cz (oN (.ref f) (.ref y));exact k a _ (.inl rfl) e
  |ext φ=>obtain⟨p,⟨o,e⟩,st⟩:=x;exact⟨st _ _ p λo q=>k _ _ (.inl rfl) q,⟨o,k _ _ (.inl rfl) e⟩,st⟩
theorem HOk.lt(x:HOk P w H h)(e:H a=cz o):a<h.objs.size:=(x a o e).lt
def HOk.fresh(x:HOk P w H h)(e:h.objs.size<=a):H a=p4:=by
  cases q:H a with
  |none=>rfl
  |some u=>exact absurd (bH (x.lt q) e) (dQ _)
def HOk.kept(x:HOk P w H h)(k:∀b u,h.get? b=cz u->h'.get? b=cz u):HOk P w H h':=λa o e=>
  (x a o e).stay (λb u _ q=>k b u q) (λ_ q=>q) λ_ _ q=>q
def HOk.laid(x:HOk P w H h)(k:∀b u,h.get? b=cz u->h'.get? b=cz u)(hp:h.objs.size<=a)(new:ObjOk P w (upd H a o) h' a o):HOk P w (upd H a o) h':=λb u e=>by
  have hn:=x.fresh hp;by_cases hb:b=a
  · subst hb;rw[g9]at e;cases e;exact new
  · rw[f7 hb]at e
    exact (x b u e).stay (λc v _ q=>k c v q) (λc q=>by rw[f7 (m8 q hn)];exact q) λc xs q=>by rw[f7 (m8 q hn)];exact q
end
def Rd(H:Hp)(a:au)(u:HO):Prop:=H a=cz u\/∃o,H a=cz (.frz o u)
def Rd.ok{P:bA}{w:bX}{H:Hp}{h:cf}{a:au}{u:HO}(r:Rd H a u)(x:HOk P w H h):ObjOk P w H h a u:=by
  rcases r with r|⟨o,r⟩
  · exact x a u r
  · obtain⟨_,q⟩:=x a _ r
    exact q
def Mut:Option HO->Prop
  |some (.lst _)=>True
  |some (.dK _)=>True
  |some (.dT _)=>True
  |some (.set _ _)=>True
  |some (.ins _ _ _)=>True
  |some (.ext _)=>True
  |_=>False
section
variable {P:bA}{w:bX}{H:Hp}{h h':cf}{x e:au}{o':HO}
def HOk.write(ok:HOk P w H h)(mu:Mut (H x))(he:e=x\/H e=cz (.own x))(k:∀b u,b≠e->h.get? b=cz u->h'.get? b=cz u)(vH:∃u,h'.get? e=cz u)
    (new:ObjOk P w (upd H x o') h' x o'):HOk P w (upd H x o') h':=λb u q=>by
  have wo:∀c y,H c=cz (.own y)->c≠x:=λc y r z=>by subst z;rw[r]at mu;exact mu
  have ze:∀{bq:au} c (u:b8P bq),H c=cz u.1->c≠x:=λ{bq} c u r z=>by subst z;rw[r]at mu;obtain⟨u,hu⟩:=u;cases u<;>first|exact hu|exact mu
  by_cases hb:b=x
  · subst hb;rw[g9]at q;cases q;exact new
  · rw[f7 hb]at q
    by_cases ve:b=e
    · have q':H b=cz (.own x):=by
        rcases he with z|z
        · exact absurd (ve.trans z) hb
        · rw[ve];exact z
      rw[q]at q';cases q';obtain⟨v,hv⟩:=vH;exact⟨v,by rw[ve];exact hv⟩
    · refine (ok b u q).stay (λc v hc r=>k c v ?_ r) (λc r=>by rw[f7 (wo c b r)];exact r) λc xs r=>by rw[f7 (ze c xs r)];exact r
      rcases hc with rfl|hc
      · exact ve
      · rintro rfl
        rcases he with z|z
        · exact wo c b hc z
        · rw[hc]at z;cases z;exact hb rfl
end
structure Un (fs ex:List au) (H H':Hp) (h h':cf):Prop where
  keep:∀b o,h.get? b=cz o->H b=p4->b∉fs->b∉ex->h'.get? b=cz o
  slot:∀b o,h.get? b=cz o->H b=p4->b∈fs->b∉ex->∃sl,h'.get? b=cz {o with slots:=sl}
  free:∀b o,h.get? b=cz o->H b=p4->b∉ex->H' b=p4
  there:∀b o,h.get? b=cz o->b∉ex->∃o',h'.get? b=cz o'
  tups:∀b xs,H b=cz (.tup xs)->H' b=cz (.tup xs)
  frzs:∀b o u,H b=cz (.frz o u)->H' b=cz (.frz o u)
  tbls:∀b ps,H b=cz (.tbl ps)->∃more,H' b=cz (.tbl (ps++more))
section
variable {fs kN ex HX:List au}{H H1 H2:Hp}{h h1 h2 h':cf}{a x e:au}{o:HO}
def Un.any(u:Un fs ex H H1 h h1)(q:h.get? b=cz ob)(n:H b=p4)(hx:b∉ex):∃sl,h1.get? b=cz {ob with slots:=sl}:=by
  by_cases hb:b∈fs
  · exact u.slot b ob q n hb hx
  · exact⟨ob.slots,u.keep b ob q n hb hx⟩
def Un.kept(k:∀b u,h.get? b=cz u->h'.get? b=cz u):Un fs ex H H h h':=
  ⟨λb ob q _ _ _=>k b ob q,λb ob q _ _ _=>⟨ob.slots,k b ob q⟩,λ_ _ _ n _=>n,λb ob q _=>⟨ob,k b ob q⟩,λ_ _ q=>q,λ_ _ _ q=>q,λ_ ps q=>⟨#[],by rw[q];simp⟩⟩
def Un.refl:Un fs ex H H h h:=Un.kept λ_ _ q=>q
def Un.laid(k:∀b u,h.get? b=cz u->h'.get? b=cz u)(hp:h.objs.size<=a)(hn:H a=p4):Un fs ex H (upd H a o) h h' where
  keep:=λb u q _ _ _=>k b u q
  slot:=λb u q _ _ _=>⟨u.slots,k b u q⟩
  free:=λb u q n _=>by rw[f7 (bK (bH (aM q) hp))];exact n
  there:=λb u q _=>⟨u,k b u q⟩
  tups:=λb xs q=>by rw[f7 (m8 q hn)];exact q
  frzs:=λb u xs q=>by rw[f7 (m8 q hn)];exact q
  tbls:=λb ps q=>⟨#[],by rw[f7 (m8 q hn),q];simp⟩
def Un.write(mu:Mut (H x))(he:e=x\/H e=cz (.own x))(k:∀b u,b≠e->h.get? b=cz u->h'.get? b=cz u)(vH:∃u,h'.get? e=cz u):Un fs ex H (upd H x o) h h':=by
  have hx:∀b,H b=p4->b≠x:=λb n z=>by subst z;rw[n]at mu;exact mu
  have hb:∀b,H b=p4->b≠e:=λb n z=>by
    subst z;rcases he with r|r
    · exact hx b n r
    · rw[n]at r;cases r
  have hm:∀b u,H b=cz u->¬ Mut (cz u)->b≠x:=λb u q nm z=>by subst z;rw[q]at mu;exact nm mu
  refine⟨λb u q n _ _=>k b u (hb b n) q,λb u q n _ _=>⟨u.slots,k b u (hb b n) q⟩,λb u q n _=>by rw[f7 (hx b n)];exact n,λb u q _=>?_,
    λb xs q=>by rw[f7 (hm b _ q λz=>z)];exact q,λb u xs q=>by rw[f7 (hm b _ q λz=>z)];exact q,λb ps q=>⟨#[],by rw[f7 (hm b _ q λz=>z),q];simp⟩⟩
  by_cases ve:b=e
  · subst ve;exact vH
  · exact⟨u,k b u ve q⟩
end
def trk(h:cf)(H:Hp):List au:=(aU h.objs.size).filter λa=>(H a).isSome
def a5d(h:cf)(H:Hp):cf:=PySem.W.hideAll h (trk h H)
def a9D(h:cf)(H:Hp):(a5d h H).objs.size=h.objs.size:=PySem.W.hideAll_size _ _
def b1f{h:cf}(e:h.get? b=cz o)(n:H b=p4):(a5d h H).get? b=cz o:=
  PySem.W.hideAll_get _ e λhm=>by
    have q:(H b).isSome=rp:=(bG.mp hm).2;rw[n]at q;simp at q
def b3T(e:(a5d h H).get? b=cz o):h.get? b=cz o/\H b=p4:=by
  have e':h.get? b=cz o:=PySem.W.of_hideAll (trk h H) e;refine⟨e',?_⟩;cases q:H b with
  |none=>rfl
  |some x=>
    have hm:b∈trk h H:=bG.mpr ⟨cw.mpr (aM e'),by simp[q]⟩;have z:(a5d h H).get? b=p4:=PySem.W.hideAll_none (trk h H) hm;rw[z]at e;cases e
def b3U(g h:cf)(L:au):List (au×gE):=(aU h.objs.size).filterMap λa=>if a=L\/(g.get? a).isSome=rp then p4 else (h.get? a).map λo=>(a,o)
def rest(g h:cf)(L d:au):List (au×gE):=(b3U g h L).filter λp=>decide (p.1≠d)
def M7:List bI:=["ways_by_state","joins_by_pair","compare","first_gathering","least_asks"]
def V1(x:bI):bI:=x++".<locals>." ++ "<lambda>"
def a5e(K:ae)(cd:aj):Option au:=match cd with
  |.ref c=>(match K.lookup c with
    |some ⟨.type n,_,.fields vs,_⟩=>if n=="code" then
        (match (vs[11]?:Option aj),(vs[18]?:Option aj),(vs[7]?:Option aj),(vs[9]?:Option aj),(vs[10]?:Option aj) with
        |some (.ref P),cz (.str _ _),cz (.int _ _),cz (.bool _),cz (.int _ _)=>if c !=P then cz P else p4
        |_,_,_,_,_=>p4) else p4
    |_=>p4)
  |_=>p4
def C5(K:ae)(x:bI):Option au:=match gZ K bV x with
  |some (cz (.ref f))=>(match K.lookup f with
    |some ⟨_,_,.func fd,_⟩=>a5e K fd.code
    |_=>p4)
  |_=>p4
def TabsIn(K:ae)(H:Hp):Prop:=∀x∈M7,∀p,C5 K x=cz p->∃qs t,H p=cz (.tbl qs)/\qs[0]?=cz (.str (V1 x) t)
def TabsIn.un{K:ae}{fs ex:List au}{H H':Hp}{h h':cf}(a:TabsIn K H)(u:Un fs ex H H' h h'):TabsIn K H':=λx hx p e=>by
  obtain⟨qs,t,e1,e2⟩:=a x hx p e;obtain⟨more,e3⟩:=u.tbls p qs e1;refine⟨_,t,e3,?_⟩;have hz:0<qs.size:=by
    rcases eS 0 qs.size with z|z
    · exact z
    · rw[gD (by omega)]at e2;cases e2
  rw[Array.getElem?_append_left hz];exact e2
structure Mod (K:ae) (mg:bI->Option aj) (base:cf):Prop where
  kin:K.In base
  glob:base.Ns bV mg
  blt:∃mb,base.Ns lg mb/\∀x:bI,x≠"__name__"->mb x=gL x
  nolimit:base.NoLimit
  bmain:∃bm ob,mg "__builtins__"=cz (.ref bm)/\bm≠lg/\base.get? bm=cz ob/\ob.cls=.type "module"/\ob.dict=cz lg/\ob.data=.plain
structure Cx where
  prog:bA
  w:bX
  K:ae
  mg:bI->Option aj
  base:cf
  A:bL
  N:List bI
  s₀:aq
  H₀:Hp
  env:pZ
  outer:List pZ
  stack:List pZ
  ex:List au
  fn:bI->Bool
  calm:Bool
  pn:List (au×gE)
  xe:aj->aq->Prop
def frs(l:List pZ):List au:=l.filterMap (·.frame)
abbrev Cx.fs(X:Cx):List au:=frs X.outer
def Vis(sc:gJ)(x:bI):Prop:=sc.names.lookup x=cz .local\/sc.names.lookup x=cz .cell\/sc.names.lookup x=cz .free
def Loc(sc:gJ)(x:bI):Prop:=sc.names.lookup x=cz .local\/sc.names.lookup x=cz .cell
def Look(env:pZ)(h:cf)(m:bI->Option aj)(x:bI)(u:aj):Prop:=
  (env.kindOf x=cz .local/\m x=cz u)\/((env.kindOf x=cz .cell\/env.kindOf x=cz .free)/\∃c,env.cells.lookup x=cz c/\h.IsCell c (cz u))
structure Cx.Ok (X:Cx):Prop where
  mod:Mod X.K X.mg X.base
  kind:X.env.scope.kind=.function
  glob:X.env.globals=bV
  blt:X.env.builtins=lg
  above:X.s₀.heap.objs.size<=X.env.locals
  inj:∀x y c,X.env.cells.lookup x=cz c->X.env.cells.lookup y=cz c->x=y
  has:∀x,(X.env.kindOf x=cz .cell\/X.env.kindOf x=cz .free)->∃c,X.env.cells.lookup x=cz c
  cab:∀x c,X.fn x=rp->X.env.cells.lookup x=cz c->X.s₀.heap.objs.size<=c
  hd:X.calm=rp->X.A.handled=p4
  frames:X.A.frames=cz X.stack
  stk:X.stack=X.outer\/(X.stack=X.env::X.outer/\X.env.frame=cz X.env.locals)
  exf:∀b∈X.ex,b≠X.env.locals/\∀x c,X.env.cells.lookup x=cz c->c≠b
  bs:∀b o,X.base.get? b=cz o->X.s₀.heap.get? b=cz o/\X.H₀ b=p4
  bsz:X.base.objs.size<=X.s₀.heap.objs.size
  noex:∀b o,X.base.get? b=cz o->b∉X.ex
  exfs:∀b∈X.ex,b∉X.fs
  funs:X.s₀.heap.FunFrames X.base X.outer
  frf:∀b∈X.fs,X.H₀ b=p4
  tabs:TabsIn X.K X.H₀
structure Inv (X:Cx) (pins:List (au×gE)) (Y:List (Option V)) (H:Hp) (s:aq):Prop where
  ok:X.Ok
  os:s.os=X.s₀.os
  bare:p_ s.gens
  base:Un X.fs X.ex X.H₀ H X.s₀.heap s.heap
  loc:∃m,s.heap.Ns X.env.locals m/\∀(i:Nat) (x:bI) (v:V),X.N[i]?=cz x->Y[i]?=cz (cz v)->Vis X.env.scope x->∃u,RelV v u/\Look X.env s.heap m x u
  cell:∀x c,X.env.cells.lookup x=cz c->∃v,s.heap.IsCell c v
  free:H X.env.locals=p4
  freeC:∀x c,X.env.cells.lookup x=cz c->H c=p4
  pin:∀p∈X.pn++pins,s.heap.get? p.1=cz p.2/\H p.1=p4/\p.1≠X.env.locals/\p.1∉X.fs/\∀v,p.2.data≠.cell v
  hok:HOk X.prog X.w H s.heap
  len:Y.length=X.N.length
section
variable {X:Cx}{pins:List (au×gE)}{Y:List (Option V)}{H H':Hp}{s:aq}{h':cf}
def Cx.Ok.nofr(ok:X.Ok)(e:X.base.get? b=cz o):b∉X.fs:=λhb=>by
  have:=(ok.funs.mem hb).1;rw[e]at this;cases this
theorem Inv.bs(I:Inv X pins Y H s):∀b o,X.base.get? b=cz o->s.heap.get? b=cz o/\H b=p4:=λb o e=>
  ⟨I.base.keep b o (I.ok.bs b o e).1 (I.ok.bs b o e).2 (I.ok.nofr e) (I.ok.noex b o e),I.base.free b o (I.ok.bs b o e).1 (I.ok.bs b o e).2 (I.ok.noex b o e)⟩
theorem Inv.tabs(I:Inv X pins Y H s):TabsIn X.K H:=I.ok.tabs.un I.base
def Inv.bk(I:Inv X pins Y H s):∀b o,X.base.get? b=cz o->s.heap.get? b=cz o:=λb o e=>(I.bs b o e).1
theorem Inv.mod(I:Inv X pins Y H s):Mod X.K X.mg X.base:=I.ok.mod
def Inv.kIn(I:Inv X pins Y H s):X.K.In s.heap:=I.ok.mod.kin.keeps I.bk
theorem Inv.lt(I:Inv X pins Y H s):X.env.locals<s.heap.objs.size:=let⟨_,hn,_⟩:=I.loc;hn.lt
def Inv.sz(I:Inv X pins Y H s):X.s₀.heap.objs.size<=s.heap.objs.size:=cU I.ok.above (eB I.lt)
def Inv.nofs(I:Inv X pins Y H s)(h:s.heap.objs.size<=a):a∉X.fs:=λhb=>by
  obtain⟨_,o,ho,_⟩:=I.ok.funs.mem hb;exact absurd (bH (aM ho) (cU I.sz h)) (dQ _)
def Inv.cne(I:Inv X pins Y H s):∀x c,X.env.cells.lookup x=cz c->c≠X.env.locals:=λx c e z=>by
  obtain⟨v,o,ho,hd⟩:=I.cell x c e;obtain⟨m,⟨o',es,ep,nS,lY,_⟩,_⟩:=I.loc;rw[z,nS]at ho;cases ho;rw[lY]at hd;cases hd
theorem Inv.funs(I:Inv X pins Y H s):s.heap.FunFrames X.base X.outer:=by
  have all:∀(l:List pZ),(∀b∈frs l,b∈X.fs)->X.s₀.heap.FunFrames X.base l->s.heap.FunFrames X.base l:=by
    intro l
    induction l with
    |nil=>intro _ _;trivial
    |cons env r ih=>
      intro hs hl;obtain⟨hk,⟨L,o,hf,hn,ho,hd⟩,hr⟩:=hl;have hL:L∈X.fs:=hs L (by unfold frs;rw[ng,hf];exact av);obtain⟨sl,e⟩:=I.base.slot L o ho (I.ok.frf L hL) hL λz=>I.ok.exfs L z hL
      exact⟨hk,⟨L,_,hf,hn,e,hd⟩,ih (λb hb=>hs b (by unfold frs;rw[ng,hf];exact aw _ hb)) hr⟩
  exact all X.outer (λ_ hb=>hb) I.ok.funs
theorem Inv.stack(I:Inv X pins Y H s):s.heap.FunFrames X.base X.stack:=by
  rcases I.ok.stk with e|⟨e,hf⟩
  · rw[e];exact I.funs
  · rw[e]
    obtain⟨m,hn,_⟩:=I.loc;refine .cons (by rw[I.ok.kind];decide) hf hn ?_ I.funs;exact cf.get?_none_of_le (cU I.ok.bsz I.ok.above)
def Inv.stkSub(I:Inv X pins Y H s):∀b∈frs X.stack,b∈X.env.locals::X.fs:=λb hb=>by
  rcases I.ok.stk with e|⟨e,hf⟩
  · rw[e]at hb;exact aw _ hb
  · rw[e]at hb
    unfold frs at hb;rw[ng,hf]at hb;exact hb
def Inv.stkFree(I:Inv X pins Y H s):∀b∈frs X.stack,H b=p4:=λb hb=>by
  rcases aF.mp (I.stkSub b hb) with e|hb
  · rw[e];exact I.free
  · obtain⟨_,o,ho,_⟩:=I.ok.funs.mem hb
    exact I.base.free b o ho (I.ok.frf b hb) λz=>I.ok.exfs b z hb
def Inv.step{g':Array GenState}{t':Nat}{d':Drawn}{ch:List au}(I:Inv X pins Y H s)
    (rY:∀b∈ch,(b∈X.ex\/X.s₀.heap.objs.size<=b)/\b≠X.env.locals/\(∀x c,X.env.cells.lookup x=cz c->c≠b)/\∀p∈X.pn++pins,p.1≠b)
    (keep:∀b o,b≠X.env.locals->b∉X.fs->b∉ch->s.heap.get? b=cz o->H b=p4->h'.get? b=cz o)
    (slot:∀b o,b≠X.env.locals->b∈X.fs->b∉ch->s.heap.get? b=cz o->H b=p4->∃sl,h'.get? b=cz {o with slots:=sl}) (free:∀b o,b∉ch->s.heap.get? b=cz o->H b=p4->H' b=p4)
    (there:∀b o,b∉ch->s.heap.get? b=cz o->∃o',h'.get? b=cz o')
    (tups:∀b xs,H b=cz (.tup xs)->H' b=cz (.tup xs)) (frzs:∀b o u,H b=cz (.frz o u)->H' b=cz (.frz o u)) (tbls:∀b ps,H b=cz (.tbl ps)->∃more,H' b=cz (.tbl (ps++more)))
    (ns:∀m,s.heap.Ns X.env.locals m->h'.Ns X.env.locals m) (hok:HOk X.prog X.w H' h') (hg:p_ g') :
    Inv X pins Y H' {s with heap:=h',gens:=g',drawn:=d',toks:=t'}:=by
  have Bv:∀b o,X.s₀.heap.get? b=cz o->b≠X.env.locals:=λb o e=>bK (bH (aM e) I.ok.above)
  have x_:∀b o,X.s₀.heap.get? b=cz o->b∉X.ex->b∉ch:=λb o e hx hb=>by
    rcases (rY b hb).1 with z|z
    · exact hx z
    · exact absurd (bH (aM e) z) (dQ _)
  have cellK:∀x c,X.env.cells.lookup x=cz c->∀v,s.heap.IsCell c v->h'.IsCell c v:=λx c e v ⟨o,ho,hd⟩=>by
    have qU:c∉ch:=λz=>(rY c z).2.2.1 x c e rfl
    by_cases hc:c∈X.fs
    · obtain⟨sl,q⟩:=slot c o (I.cne x c e) hc qU ho (I.freeC x c e)
      exact⟨_,q,hd⟩
    · exact⟨o,keep c o (I.cne x c e) hc qU ho (I.freeC x c e),hd⟩
  refine⟨I.ok,I.os,hg,⟨λb o e n hb hx=>?_,λb o e n hb hx=>?_,λb o e n hx=>?_,λb o e hx=>?_,λb xs e=>tups b xs (I.base.tups b xs e),λb o xs e=>frzs b o xs (I.base.frzs b o xs e),λb ps e=>?_⟩,?_,λx c e=>?_,?_,λx c e=>?_,λp hp=>?_,hok,I.len⟩
  · exact keep b o (Bv b o e) hb (x_ b o e hx) (I.base.keep b o e n hb hx) (I.base.free b o e n hx)
  · obtain⟨sl,e1⟩:=I.base.slot b o e n hb hx
    obtain⟨Bl,e2⟩:=slot b _ (Bv b o e) hb (x_ b o e hx) e1 (I.base.free b o e n hx);exact⟨Bl,e2⟩
  · obtain⟨o',e1⟩:=I.base.there b o e hx
    exact free b o' (x_ b o e hx) e1 (I.base.free b o e n hx)
  · obtain⟨o',e1⟩:=I.base.there b o e hx
    exact there b o' (x_ b o e hx) e1
  · obtain⟨m1,e1⟩:=I.base.tbls b ps e
    obtain⟨m2,e2⟩:=tbls b _ e1;exact⟨m1++m2,by rw[e2,kz]⟩
  · obtain⟨m,hn,hl⟩:=I.loc
    refine⟨m,ns m hn,λi x v e1 e2 e3=>?_⟩;obtain⟨u,r,l⟩:=hl i x v e1 e2 e3;refine⟨u,r,?_⟩;rcases l with l|⟨k,c,e,z⟩
    · exact .inl l
    · exact .inr ⟨k,c,e,cellK x c e _ z⟩
  · obtain⟨v,z⟩:=I.cell x c e
    exact⟨v,cellK x c e v z⟩
  · obtain⟨m,⟨o,_,_,ho,_⟩,_⟩:=I.loc
    exact free _ o (λz=>(rY _ z).2.1 rfl) ho I.free
  · obtain⟨v,o,ho,hd⟩:=I.cell x c e
    exact free c o (λz=>(rY c z).2.2.1 x c e rfl) ho (I.freeC x c e)
  · obtain⟨e,n,ne,nf,d⟩:=I.pin p hp
    have qU:p.1∉ch:=λz=>(rY p.1 z).2.2.2 p hp rfl
    exact⟨keep p.1 p.2 ne nf qU e n,free p.1 p.2 qU e n,ne,nf,d⟩
def Inv.un(I:Inv X pins Y H s)(u:Un X.fs [] H H' s.heap h')(hok:HOk X.prog X.w H' h'):Inv X pins Y H' {s with heap:=h',toks:=t'}:=by
  obtain⟨m,⟨o,es,ep,ho,r⟩,_⟩:=id I.loc;obtain⟨sl,hL⟩:=u.any ho I.free (by simp);exact I.step (g':=s.gens) (d':=s.drawn) (ch:=[]) (λ_ z=>nomatch z) (λb o _ hb _ e n=>u.keep b o e n hb (by simp)) (λb o _ hb _ e n=>u.slot b o e n hb (by simp)) (λb o _ e n=>u.free b o e n (by simp)) (λb o _ e=>u.there b o e (by simp)) u.tups u.frzs u.tbls (λm' hm=>by
    obtain⟨o',fS,sQ,nS,r'⟩:=hm;rw[ho]at nS;cases nS;exact⟨_,fS,sQ,hL,r'⟩) hok I.bare
def Inv.call(I:Inv X pins Y H s)(u:Un (frs X.stack) ch H H' s.heap h')(hok:HOk X.prog X.w H' h')(hg:p_ g')
    (rY:∀b∈ch,(b∈X.ex\/X.s₀.heap.objs.size<=b)/\b≠X.env.locals/\(∀x c,X.env.cells.lookup x=cz c->c≠b)/\∀p∈X.pn++pins,p.1≠b) :
    Inv X pins Y H' {s with heap:=h',gens:=g',drawn:=d',toks:=t'}:=by
  obtain⟨m,⟨o,es,ep,ho,r⟩,_⟩:=id I.loc;obtain⟨sl,hL⟩:=u.any ho I.free λz=>(rY _ z).2.1 rfl
  exact I.step (ch:=ch) rY (λb o hL hb hc e n=>u.keep b o e n (λz=>(aF.mp (I.stkSub b z)).elim hL hb) hc) (λb o _ _ hc e n=>u.any e n hc) (λb o hc e n=>u.free b o e n hc) (λb o hc e=>u.there b o e hc) u.tups u.frzs u.tbls (λm' hm=>by
    obtain⟨o',fS,sQ,nS,r'⟩:=hm;rw[ho]at nS;cases nS;exact⟨_,fS,sQ,hL,r'⟩) hok hg
def Inv.turned(I:Inv X pins Y H s)(k:∀b o,b≠it->s.heap.get? b=cz o->h'.get? b=cz o)(hn:H it=p4)(hL:it≠X.env.locals)
    (h1:it∈X.ex\/X.s₀.heap.objs.size<=it) (h2:∀x c,X.env.cells.lookup x=cz c->c≠it) (h3:∀p∈X.pn++pins,p.1≠it):Inv X pins Y H {s with heap:=h',toks:=t'}:=by
  have Bt:∀b u,H b=cz u->b≠it:=λb u e z=>by rw[z,hn]at e;cases e
  refine I.step (g':=s.gens) (d':=s.drawn) (ch:=[it]) (λb hb=>?_) (λb o _ _ hc e _=>k b o (λz=>hc (by simp[z])) e) (λb o _ _ hc e _=>⟨o.slots,k b o (λz=>hc (by simp[z])) e⟩) (λ_ _ _ _ n=>n)
    (λb o hc e=>⟨o,k b o (λz=>hc (by simp[z])) e⟩) (λ_ _ e=>e) (λ_ _ _ e=>e) (λb ps e=>⟨#[],by rw[e];simp⟩) (λm hm=>?_) (λb u e=>?_) I.bare
  · have e:b=it:=by simpa using hb
    subst e;exact⟨h1,hL,h2,h3⟩
  · obtain⟨o,es,ep,ho,r⟩:=hm
    exact⟨o,es,ep,k _ o (dN hL) ho,r⟩
  · refine (I.hok b u e).stay (λc v hc q=>k c v ?_ q) (λ_ q=>q) λ_ _ q=>q
    rcases hc with z|z
    · rw[z];exact Bt b u e
    · exact Bt c _ z
def Inv.tok(I:Inv X pins Y H s)(t:Nat):Inv X pins Y H {s with toks:=t}:=I.un (h':=s.heap) (t':=t) Un.refl I.hok
theorem Inv.kept(I:Inv X pins Y H s)(k:∀b u,s.heap.get? b=cz u->h'.get? b=cz u):Inv X pins Y H {s with heap:=h',toks:=t'}:=I.un (Un.kept k) (I.hok.kept k)
theorem Inv.laid{a:au}{o:HO}{t':Nat}(I:Inv X pins Y H s)(k:∀b u,s.heap.get? b=cz u->h'.get? b=cz u)(hp:s.heap.objs.size<=a)(new:ObjOk X.prog X.w (upd H a o) h' a o) :
    Inv X pins Y (upd H a o) {s with heap:=h',toks:=t'}:=I.un (Un.laid k hp (I.hok.fresh hp)) (I.hok.laid k hp new)
theorem Inv.write(I:Inv X pins Y H s)(mu:Mut (H x))(he:e=x\/H e=cz (.own x))(k:∀b u,b≠e->s.heap.get? b=cz u->h'.get? b=cz u)(vH:∃u,h'.get? e=cz u)
    (new:ObjOk X.prog X.w (upd H x o) h' x o):Inv X pins Y (upd H x o) {s with heap:=h',toks:=t'}:=I.un (Un.write mu he k vH) (I.hok.write mu he k vH new)
def Inv.pins_of(I:Inv X pins Y H s)(h:∀p∈we,s.heap.get? p.1=cz p.2/\H p.1=p4/\p.1≠X.env.locals/\p.1∉X.fs/\∀v,p.2.data≠.cell v):Inv X we Y H s:=
  ⟨I.ok,I.os,I.bare,I.base,I.loc,I.cell,I.free,I.freeC,λp hp=>(az.mp hp).elim (λz=>I.pin p (aO _ z)) (h p),I.hok,I.len⟩
def a6g{N:List bI}(hN:N.Nodup){i j:Nat}{x:bI}(a:N[i]?=cz x)(b:N[j]?=cz x):i=j:=by
  obtain⟨h1,e1⟩:=aN.mp a;obtain⟨h2,e2⟩:=aN.mp b;exact (List.getElem_inj hN).mp (e1.trans e2.symm)
def a9E{M:Model}{A:bL}{E:aj->aq->Prop}{i:Nat}{x:bI}{v:V}{u:aj}{Q:Unit->aq->Prop}(I:Inv X pins Y H s)(hN:X.N.Nodup)(hi:X.N[i]?=cz x)(hx:Loc X.env.scope x)(r:RelV v u)
    (h:∀s',Inv X pins (Y.set i (cz v)) H s'->(∃a,dH a s.heap s'.heap/\(a=X.env.locals\/X.env.cells.lookup x=cz a))->Q () s') (hf:X.fn x=rp\/X.env.scope.names.lookup x=cz .local:=by first|exact .inl rfl|exact .inr rfl|assumption):aG M A (storeName X.env x u) Q E s:=by
  obtain⟨m,hn,hl⟩:=id I.loc;have Ar:(X.env.scope.kind==.class||(X.env.scope.kind==.module&&X.env.locals !=X.env.globals))=xn:=by rw[I.ok.kind];rfl
  have xa:i<Y.length:=by rw[I.len];exact (aN.mp hi).1
  have cne:=I.cne;have tracked:∀{a:au} {h':cf},(∃o,s.heap.get? a=cz o/\H a=p4)->dH a s.heap h'->HOk X.prog X.w H h':=λ{a h'} ha hs b ob e=>by
    obtain⟨_,_,oD⟩:=ha;refine (I.hok b ob e).stay (λc w' hc q=>(hs.2 c ?_).trans q) (λ_ q=>q) λ_ _ q=>q
    rintro rfl;rcases hc with rfl|hc
    · rw[oD]at e;cases e
    · rw[oD]at hc;cases hc
  rcases hx with hk|hk
  · refine wpAny_storeName_local hk hn (λh' uR hs=>?_) Ar
    obtain⟨oL,_,_,EI,_⟩:=id hn;refine h _ ⟨I.ok,I.os,I.bare,⟨λb o e n hb hx=>?_,λb o e n hb hx=>?_,I.base.free,λb o e hx=>?_,I.base.tups,I.base.frzs,I.base.tbls⟩,⟨_,uR,λj y v' e1 e2 e3=>?_⟩,λy c e=>?_,I.free,I.freeC,λp hp=>?_,tracked ⟨oL,EI,I.free⟩ hs,by simpa using I.len⟩ ⟨_,hs,.inl rfl⟩
    · exact (hs.2 b (bK (bH (aM e) I.ok.above))).trans (I.base.keep b o e n hb hx)
    · obtain⟨sl,e1⟩:=I.base.slot b o e n hb hx
      exact⟨sl,(hs.2 b (bK (bH (aM e) I.ok.above))).trans e1⟩
    · obtain⟨o',e1⟩:=I.base.there b o e hx
      exact⟨o',(hs.2 b (bK (bH (aM e) I.ok.above))).trans e1⟩
    · by_cases hj:j=i
      · subst hj
        rw[hi]at e1;cases e1;rw[eD xa]at e2;cases e2
        exact⟨u,r,.inl ⟨hk,by simp⟩⟩
      · rw[dg (dN hj)]at e2
        obtain⟨u',r',q⟩:=hl j y v' e1 e2 e3;refine⟨u',r',?_⟩;rcases q with⟨k,e⟩|⟨k,c,e,z⟩
        · refine .inl ⟨k,?_⟩
          have:y≠x:=λe=>hj (a6g hN e1 (e▸hi))
          simp[this,e]
        · exact .inr ⟨k,c,e,z.sameBut hs (cne y c e)⟩
    · obtain⟨w',z⟩:=I.cell y c e
      exact⟨w',z.sameBut hs (cne y c e)⟩
    · obtain⟨e,n,ne,nf,d⟩:=I.pin p hp
      exact⟨(hs.2 p.1 ne).trans e,n,ne,nf,d⟩
  · have pF:X.fn x=rp:=by
      rcases hf with z|z
      · exact z
      · rw[z]at hk;cases hk
    obtain⟨c,hc⟩:=I.ok.has x (.inl hk);obtain⟨w',z⟩:=I.cell x c hc;refine wpAny_storeName_cell I.ok.kind hk hc z (λh' vd hs=>?_);obtain⟨oc,wQ,zR⟩:=id z;refine h {s with heap:=h'} ⟨I.ok,I.os,I.bare,⟨λb o e n hb hx=>?_,λb o e n hb hx=>?_,I.base.free,λb o e hx=>?_,I.base.tups,I.base.frzs,I.base.tbls⟩,⟨m,hn.sameBut hs (dN (cne x c hc)),λj y v' e1 e2 e3=>?_⟩,λy c' e=>?_,I.free,I.freeC,λp hp=>?_,tracked ⟨oc,wQ,I.freeC x c hc⟩ hs,by simpa using I.len⟩ ⟨c,hs,.inr hc⟩
    · exact (hs.2 b (bK (bH (aM e) (I.ok.cab x c pF hc)))).trans (I.base.keep b o e n hb hx)
    · obtain⟨sl,e1⟩:=I.base.slot b o e n hb hx
      exact⟨sl,(hs.2 b (bK (bH (aM e) (I.ok.cab x c pF hc)))).trans e1⟩
    · obtain⟨o',e1⟩:=I.base.there b o e hx
      exact⟨o',(hs.2 b (bK (bH (aM e) (I.ok.cab x c pF hc)))).trans e1⟩
    · by_cases hj:j=i
      · subst hj
        rw[hi]at e1;cases e1;rw[eD xa]at e2;cases e2
        exact⟨u,r,.inr ⟨.inl hk,c,hc,vd⟩⟩
      · rw[dg (dN hj)]at e2
        obtain⟨u',r',q⟩:=hl j y v' e1 e2 e3;refine⟨u',r',?_⟩;rcases q with q|⟨k,c',e,z'⟩
        · exact .inl q
        · refine .inr ⟨k,c',e,z'.sameBut hs ?_⟩
          rintro rfl;exact hj (a6g hN e1 (I.ok.inj _ _ _ e hc▸hi))
    · by_cases yq:c'=c
      · subst yq;exact⟨_,vd⟩
      · obtain⟨w2,z2⟩:=I.cell y c' e
        exact⟨w2,z2.sameBut hs yq⟩
    · obtain⟨e,n,ne,nf,d⟩:=I.pin p hp
      refine⟨(hs.2 p.1 ?_).trans e,n,ne,nf,d⟩;intro q;rw[q,wQ]at e;have q':oc=p.2:=aK e;exact d w' (by rw[<-q'];exact zR)
def a2I(I:Inv X pins Y H s)(hN:X.N.Nodup)(hi:X.N[i]?=cz x)(hx:Loc X.env.scope x)(r:RelV v u)
    (h:∀s',Inv X pins (Y.set i (cz v)) H s'->Q () s') (hf:X.fn x=rp\/X.env.scope.names.lookup x=cz .local:=by first|exact .inl rfl|exact .inr rfl|assumption):aG M A (storeName X.env x u) Q E s:=
  a9E I hN hi hx r (λs' I' _=>h s' I') hf
def Inv.call'{s':aq}(I:Inv X pins Y H s)(ho:s'.os=s.os)(u:Un (frs X.stack) ch H H' s.heap s'.heap)(hok:HOk X.prog X.w H' s'.heap)(hg:p_ s'.gens)
    (rY:∀b∈ch,(b∈X.ex\/X.s₀.heap.objs.size<=b)/\b≠X.env.locals/\(∀x c,X.env.cells.lookup x=cz c->c≠b)/\∀p∈X.pn++pins,p.1≠b):Inv X pins Y H' s':=by
  obtain⟨h',g',d',t',o'⟩:=s';have e:o'=s.os:=ho;subst e;exact I.call (g':=g') (t':=t') (d':=d') u hok hg rY
end
abbrev XK:=aj->Option au->Hp->Prop
abbrev St:=List (Option V)
abbrev VK:=V->Hp->Prop
abbrev TE:=St->Hp->VK->Prop
abbrev TT:=St->Hp->(Bool->Hp->Prop)->Prop
abbrev TA:=St->Hp->(List V->Hp->Prop)->Prop
structure Ends where
  nx:St->Hp->Prop
  rt:VK
  bk:St->Hp->Prop:=λ_ _=>False
  ct:St->Hp->Prop:=λ_ _=>False
abbrev TS:=Ends->St->Hp->Prop
def EP(X:Cx)(pins:List (au×gE))(Y:St)(Q:VK)(u:aj)(s':aq):Prop:=∃v H',Inv X pins Y H' s'/\RelV v u/\Q v H'
def TP(X:Cx)(pins:List (au×gE))(Y:St)(Q:Bool->Hp->Prop)(b:Bool)(s':aq):Prop:=∃H',Inv X pins Y H' s'/\Q b H'
def AP(X:Cx)(pins:List (au×gE))(Y:St)(Q:List V->Hp->Prop)(us:List aj)(s':aq):Prop:=∃vs H',Inv X pins Y H' s'/\Vals vs us/\Q vs H'
def SP(X:Cx)(pins:List (au×gE))(D:Ends)(f:Flow)(s':aq):Prop:=
  match f with
  |.next=>∃Y' H',Inv X pins Y' H' s'/\D.nx Y' H'
  |.brk=>∃Y' H',Inv X pins Y' H' s'/\D.bk Y' H'
  |.cont=>∃Y' H',Inv X pins Y' H' s'/\D.ct Y' H'
  |.ret u=>∃v Y' H',Inv X pins Y' H' s'/\RelV v u/\D.rt v H'
def PE(X:Cx)(e:Expr)(t:TE):Prop:=
  ∀(pins:List (au×gE)) (s:aq) (Y:St) (H:Hp) (Q:VK),Inv X pins Y H s->t Y H Q->aG (aT X.prog X.w) X.A (cG e X.env) (EP X pins Y Q) X.xe s
def PT(X:Cx)(e:Expr)(t:TT):Prop:=
  ∀(pins:List (au×gE)) (s:aq) (Y:St) (H:Hp) (Q:Bool->Hp->Prop),Inv X pins Y H s->t Y H Q->aG (aT X.prog X.w) X.A (so e X.env (cG e X.env)) (TP X pins Y Q) X.xe s
def PW(X:Cx)(e:Expr)(t:TT):Prop:=
  ∀(whole:yK aj) (pins:List (au×gE)) (s:aq) (Y:St) (H:Hp) (Q:Bool->Hp->Prop),Inv X pins Y H s->t Y H Q->aG (aT X.prog X.w) X.A (so e X.env whole) (TP X pins Y Q) X.xe s
def PW.pt(h:PW X e t):PT X e t:=h _
def PA(X:Cx)(es:List Expr)(t:TA):Prop:=
  ∀(pos:fQ) (pins:List (au×gE)) (s:aq) (Y:St) (H:Hp) (Q:List V->Hp->Prop),Inv X pins Y H s->t Y H Q->aG (aT X.prog X.w) X.A (spliced (cC pos (ao es X.env))) (AP X pins Y Q) X.xe s
def PS(X:Cx)(st:iz)(t:TS):Prop:=
  ∀(pins:List (au×gE)) (s:aq) (Y:St) (H:Hp) (D:Ends),Inv X pins Y H s->t D Y H->aG (aT X.prog X.w) X.A (exec st X.env) (SP X pins D) X.xe s
def PSs(X:Cx)(st:List iz)(t:TS):Prop:=
  ∀(pins:List (au×gE)) (s:aq) (Y:St) (H:Hp) (D:Ends),Inv X pins Y H s->t D Y H->aG (aT X.prog X.w) X.A (execs st X.env) (SP X pins D) X.xe s
def thn{α:Type}{t:yK α}{Q Q':α->aq->Prop}{M:Model}{A:bL}{E:aj->aq->Prop}{s:aq}(h:aG M A t Q E s)(hQ:∀a s,Q a s->Q' a s):aG M A t Q' E s:=de h hQ λ_ _ x=>x
section
variable {X:Cx}
def b3V(i:Nat):TE:=λY H Q=>∃v,Y[i]?=cz (cz v)/\Q v H
def tC(v:V):TE:=λ_ H Q=>Q v H
def x9(hN:X.N[i]?=cz x)(hv:Vis X.env.scope x)(hd:(x==("__debug__":bI))=xn:=by decide)(jg:(x==("__classdict__":bI))=xn:=by decide):PE X (.Name x pos) (b3V i):=by
  intro pins s Y H Q I h;obtain⟨v,e,h⟩:=h;obtain⟨m,hn,hl⟩:=I.loc;obtain⟨u,r,l⟩:=hl i x v hN e hv;have fin:EP X pins Y Q u s:=⟨v,H,I,r,h⟩;rcases l with⟨hk,hm⟩|⟨hk,c,hc,nq⟩
  · exact wpAny_Name (wpAny_loadName_local I.ok.kind hk hn hm fin) hd
  · rcases hk with hk|hk
    · exact wpAny_Name (wpAny_loadName_cell I.ok.kind hk hc nq fin) hd
    · exact wpAny_Name (wpAny_loadName_free I.ok.kind hk hc nq fin jg) hd
def b6y{i j pos}:PE X (.Constant (.int i) j pos) (tC (.int i)):=λ_ _ _ H _ I h=>wpAny_Constant_int ⟨.int i,H,I.tok _,⟨_,rfl⟩,h⟩
def b8Q{b j pos}:PE X (.Constant (.bool b) j pos) (tC (.bl b)):=λ_ _ _ H _ I h=>Constant_bool ⟨.bl b,H,I,rfl,h⟩
def b6z{j pos}:PE X (.Constant .none j pos) (tC .non):=λ_ _ _ H _ I h=>Constant_none ⟨.non,H,I,rfl,h⟩
def Gl(X:Cx)(x:bI):Prop:=X.env.kindOf x=cz .globalImplicit
def a5f(I:Inv X pins Y H s)(hg:Gl X x)(hm:X.mg x=cz u)(h:Q u s)
    (hd:(x==("__debug__":bI))=xn:=by decide):aG (aT X.prog X.w) X.A (cG (.Name x pos) X.env) Q E s:=
  xT I.ok.kind hg (Calls.loadGlobal_global (by rw[I.ok.glob];exact I.mod.glob.keeps I.bk) hm h) hd
def a0g(I:Inv X pins Y H s)(hg:Gl X x)(hm:X.mg x=p4)(hv:gL x=cz u)(h:Q u s)
    (hn:x≠"__name__":=by decide) (hd:(x==("__debug__":bI))=xn:=by decide):aG (aT X.prog X.w) X.A (cG (.Name x pos) X.env) Q E s:=by
  obtain⟨mb,h1,h2⟩:=I.mod.blt;exact xT I.ok.kind hg (Calls.loadGlobal_builtin (by rw[I.ok.glob];exact I.mod.glob.keeps I.bk) hm (by rw[I.ok.blt];exact h1.keeps I.bk) ((h2 x hn).trans hv) h) hd
def b3W(hg:Gl X x)(hm:X.mg x=cz u)(r:RelV v u)(hd:(x==("__debug__":bI))=xn:=by decide):PE X (.Name x pos) (tC v):=
  λ_ _ _ H _ I h=>a5f I hg hm ⟨v,H,I,r,h⟩ hd
def b3X(hg:Gl X x)(hm:X.mg x=p4)(hv:gL x=cz u)(r:RelV v u)(hn:x≠"__name__":=by decide)(hd:(x==("__debug__":bI))=xn:=by decide):PE X (.Name x pos) (tC v):=
  λ_ _ _ H _ I h=>a0g I hg hm hv ⟨v,H,I,r,h⟩ hn hd
variable {a b:Expr}{ta tb:TE}{pos:fQ}
def tB(t:TE):TT:=λY H Q=>t Y H λx H1=>∃c,x=.bl c/\Q c H1
variable {tA xV:TT}{rest:List Expr}
def c0D(t u:TT):TT:=λY H Q=>t Y H λc H1=>if c=rp then u Y H1 Q else Q xn H1
def tOr(t u:TT):TT:=λY H Q=>t Y H λc H1=>if c=rp then Q rp H1 else u Y H1 Q
def c0E(t:TT):TT:=λY H Q=>t Y H λc H1=>Q (!c) H1
def b3Y(ha:PT X a tA):PW X (.BoolOp .And [a] pos) tA:=by
  intro wh pins s Y H Q I h;refine isTrue_and (thn (ha pins s Y H Q I h) λc s1 e=>?_);cases c with
  |true=>exact isTrue_and_nil e
  |false=>exact e
def b6A(ha:PT X a tA):PW X (.BoolOp .Or [a] pos) tA:=by
  intro wh pins s Y H Q I h;refine isTrue_or (thn (ha pins s Y H Q I h) λc s1 e=>?_);cases c with
  |false=>exact isTrue_or_nil e
  |true=>exact e
def b6B(ha:PT X a tA)(hb:PW X (.BoolOp .And (b::rest) pos) xV):PW X (.BoolOp .And (a::b::rest) pos) (c0D tA xV):=by
  intro wh pins s Y H Q I h;refine isTrue_and (thn (ha pins s Y H _ I h) λc s1 ⟨H1,I1,q1⟩=>?_);cases c with
  |true=>exact hb wh pins s1 Y H1 Q I1 q1
  |false=>exact⟨H1,I1,q1⟩
def b8R(ha:PT X a tA)(hb:PW X (.BoolOp .Or (b::rest) pos) xV):PW X (.BoolOp .Or (a::b::rest) pos) (tOr tA xV):=by
  intro wh pins s Y H Q I h;refine isTrue_or (thn (ha pins s Y H _ I h) λc s1 ⟨H1,I1,q1⟩=>?_);cases c with
  |true=>exact⟨H1,I1,q1⟩
  |false=>exact hb wh pins s1 Y H1 Q I1 q1
def b6C(ha:PT X a tA):PT X (.UnaryOp .Not a pos) (c0E tA):=by
  intro pins s Y H Q I h;exact isTrue_not (ha pins s Y H (λc H1=>Q (!c) H1) I h)
def b8S(ta tb:TE):TE:=λY H Q=>ta Y H λx H1=>∃c,x=.bl c/\if c=rp then tb Y H1 Q else Q (.bl xn) H1
def b8T(ta:TE):TE:=λY H Q=>ta Y H λx H1=>∃c,x=.bl c/\Q (.bl (!c)) H1
def b6D{op}(h:PE X a t):PE X (.BoolOp op [a] pos) t:=λpins s Y H Q I hw=>BoolOp_one (h pins s Y H Q I hw)
def b6E(ha:PE X a ta)(hb:PE X (.BoolOp .And (b::rest) pos) tb):PE X (.BoolOp .And (a::b::rest) pos) (b8S ta tb):=by
  intro pins s Y H Q I h;refine BoolOp_and (thn (ha pins s Y H _ I h) λv s1 ⟨x,H1,I1,r1,q1⟩=>?_);obtain⟨c,rfl,q1⟩:=q1;cases r1
  refine eK ?_;cases c with
  |true=>exact hb pins s1 Y H1 Q I1 q1
  |false=>exact⟨.bl xn,H1,I1,rfl,q1⟩
def b6F(ha:PE X a ta):PE X (.UnaryOp .Not a pos) (b8T ta):=by
  intro pins s Y H Q I h;refine UnaryOp_ (thn (ha pins s Y H _ I h) λv s1 ⟨x,H1,I1,r1,q1⟩=>?_);obtain⟨c,rfl,q1⟩:=q1;cases r1
  exact not_of (eK ⟨.bl (!c),H1,I1,rfl,q1⟩)
def tIf(t:TT)(ta tb:TE):TE:=λY H Q=>t Y H λc H1=>if c=rp then ta Y H1 Q else tb Y H1 Q
def b1g{c:Expr}(hc:PT X c tA)(ha:PE X a ta)(hb:PE X b tb):PE X (.IfExp c a b pos) (tIf tA ta tb):=by
  intro pins s Y H Q I h;refine wpAny_IfExp (thn (hc pins s Y H _ I h) λd s1 ⟨H1,I1,q1⟩=>?_);cases d with
  |true=>exact ha pins s1 Y H1 Q I1 q1
  |false=>exact hb pins s1 Y H1 Q I1 q1
end
def SqL(K:ae)(H:Hp)(a:au)(xs:List V):Prop:=
  Rd H a (.lst xs)\/
    ∃(o:gE) (cQ:Array aj) (n:Nat),K.lookup a=cz o/\o.cls=.type "list"/\o.dict=p4/\o.data=.seq cQ n/\cQ.size<=aV/\Vals xs cQ.toList
def SqT(K:ae)(H:Hp)(a:au)(xs:List V):Prop:=
  Rd H a (.tup xs)\/
    ∃(o:gE) (cQ:Array aj) (n:Nat),K.lookup a=cz o/\o.cls=.type "tuple"/\o.data=.seq cQ n/\cQ.size<=aV/\Vals xs cQ.toList
def c0F:aj->Option V
  |.none=>cz .non
  |.bool b=>cz (.bl b)
  |.int i _=>cz (.int i)
  |.str x _=>cz (.str x)
  |.bytes b _=>cz (.byt b)
  |.float b _=>cz (.flt b)
  |.ref a=>cz (.ref a)
  |.type n=>cz (.ty n)
  |_=>p4
def RelV.abs(r:RelV x u):c0F u=cz x:=by
  cases x with
  |non=>cases r;rfl
  |bl _=>cases r;rfl
  |int _=>obtain⟨t,rfl⟩:=r;rfl
  |str _=>obtain⟨t,rfl⟩:=r;rfl
  |byt _=>obtain⟨t,rfl⟩:=r;rfl
  |flt _=>obtain⟨t,rfl⟩:=r;rfl
  |ref _=>cases r;rfl
  |ty _=>cases r;rfl
def RelV.inj(r:RelV x u)(q:RelV y u):x=y:=aK (r.abs.symm.trans q.abs)
theorem Vals.inj:∀{xs ys:List V} {us:List aj},Vals xs us->Vals ys us->xs=ys
  |_,_,_,.nil,.nil=>rfl
  |_,_,_,.cons r t,.cons r' t'=>by rw[r.inj r',Vals.inj t t']
section
variable {X:Cx}{pins:List (au×gE)}{Y:St}{H:Hp}{s:aq}{a:au}{xs ys:List V}
def SqL.of{K:ae}(h:H a=cz (.lst xs)):SqL K H a xs:=.inl (.inl h)
def SqT.of{K:ae}(h:H a=cz (.tup xs)):SqT K H a xs:=.inl (.inl h)
def Inv.list(I:Inv X pins Y H s)(h:SqL X.K H a xs):∃cQ:List aj,Vals xs cQ/\PlainL s.heap a cQ.toArray/\xs.length<=aV:=by
  rcases h with h|⟨o,cQ,n,hk,hc,hd,hs,hz,r⟩
  · obtain⟨z,cQ,n,r,e⟩:=h.ok I.hok
    exact⟨cQ,r,⟨_,n,e,rfl,rfl,rfl⟩,z⟩
  · refine⟨cQ.toList,r,⟨o,n,I.kIn a o hk,hc,hd,by simpa using hs⟩,?_⟩
    have e:=r.length;simp only[aD]at e;omega
def Inv.tuple(I:Inv X pins Y H s)(h:SqT X.K H a xs):∃cQ:List aj,Vals xs cQ/\IsTup s.heap a cQ.toArray/\xs.length<=aV:=by
  rcases h with h|⟨o,cQ,n,hk,hc,hs,hz,r⟩
  · obtain⟨z,cQ,r,p⟩:=h.ok I.hok
    exact⟨cQ,r,p,z⟩
  · refine⟨cQ.toList,r,⟨o,I.kIn a o hk,hc,n,by simpa using hs⟩,?_⟩
    have e:=r.length;simp only[aD]at e;omega
def Inv.list_inj(I:Inv X pins Y H s)(h:SqL X.K H a xs)(h':SqL X.K H a ys):xs=ys:=by
  obtain⟨cQ,r,⟨o,n,e,_,_,d⟩,_⟩:=I.list h;obtain⟨its',r',⟨o',n',e',_,_,d'⟩,_⟩:=I.list h';rw[e]at e';cases e';rw[d]at d'
  injection d' with d1 _
  have:cQ=its':=by simpa using d_ vA d1
  subst this;exact r.inj r'
def Inv.tuple_inj(I:Inv X pins Y H s)(h:SqT X.K H a xs)(h':SqT X.K H a ys):xs=ys:=by
  obtain⟨cQ,r,⟨o,e,_,n,d⟩,_⟩:=I.tuple h;obtain⟨its',r',⟨o',e',_,n',d'⟩,_⟩:=I.tuple h';rw[e]at e';cases e';rw[d]at d'
  injection d' with d1 _
  have:cQ=its':=by simpa using d_ vA d1
  subst this;exact r.inj r'
end
abbrev Cx.wish(X:Cx)(E:aj->aq->Prop):Cx:={X with xe:=E}
abbrev Cx.nox(X:Cx):Cx:=X.wish λ_ _=>False
theorem Cx.Ok.wish{X:Cx}(ok:X.Ok)(E:aj->aq->Prop):(X.wish E).Ok:=
  ⟨ok.mod,ok.kind,ok.glob,ok.blt,ok.above,ok.inj,ok.has,ok.cab,ok.hd,ok.frames,ok.stk,ok.exf,ok.bs,ok.bsz,ok.noex,ok.exfs,ok.funs,ok.frf,ok.tabs⟩
def Cx.Ok.unwish{X:Cx}(ok:(X.wish E).Ok):X.Ok:=
  ⟨ok.mod,ok.kind,ok.glob,ok.blt,ok.above,ok.inj,ok.has,ok.cab,ok.hd,ok.frames,ok.stk,ok.exf,ok.bs,ok.bsz,ok.noex,ok.exfs,ok.funs,ok.frf,ok.tabs⟩
section
variable {X:Cx}{pins:List (au×gE)}{Y:St}{H:Hp}{s:aq}{E:aj->aq->Prop}
theorem Inv.wish(I:Inv X pins Y H s)(E:aj->aq->Prop):Inv (X.wish E) pins Y H s:=⟨I.ok.wish E,I.os,I.bare,I.base,I.loc,I.cell,I.free,I.freeC,I.pin,I.hok,I.len⟩
theorem Inv.unwish(I:Inv (X.wish E) pins Y H s):Inv X pins Y H s:=⟨I.ok.unwish,I.os,I.bare,I.base,I.loc,I.cell,I.free,I.freeC,I.pin,I.hok,I.len⟩
theorem SP.unwish(h:SP (X.wish E) pins D f s'):SP X pins D f s':=by
  cases f with
  |next=>obtain⟨Y',H',I,q⟩:=h;exact⟨Y',H',I.unwish,q⟩
  |brk=>obtain⟨Y',H',I,q⟩:=h;exact⟨Y',H',I.unwish,q⟩
  |cont=>obtain⟨Y',H',I,q⟩:=h;exact⟨Y',H',I.unwish,q⟩
  |ret u=>obtain⟨v,Y',H',I,r,q⟩:=h;exact⟨v,Y',H',I.unwish,r,q⟩
theorem PSs.nox{st:List iz}{t:TS}(h:PSs X.nox st t):PSs X st t:=λpins s Y H D I hw=>
  de (h pins s Y H D (I.wish _) hw) (λ_ _ q=>q.unwish) λ_ _ z=>cP z
end
section
variable {X:Cx}{st:iz}{rest:List iz}{t u:TS}{e:Expr}{te:TE}{pos:fQ}
def b1h:TS:=λD Y H=>D.nx Y H
def b6G(t u:TS):TS:=λD Y H=>t {D with nx:=u D} Y H
def a5g:PSs X [] b1h:=λ_ _ Y H _ I h=>ni ⟨Y,H,I,h⟩
def V2(h1:PS X st t)(h2:PSs X rest u):PSs X (st::rest) (b6G t u):=by
  intro pins s Y H D I h;refine wpAny_execs_cons (thn (h1 pins s Y H {D with nx:=u D} I h) λf s1 q=>?_);cases f with
  |next=>
    obtain⟨Y',H',I',q⟩:=q;exact h2 pins s1 Y' H' D I' q
  |ret v=>exact q
  |brk=>exact q
  |cont=>exact q
def a5h(h1:PS X st t):PSs X [st] t:=by
  intro pins s Y H D I h;refine wpAny_execs_cons (thn (h1 pins s Y H D I h) λf s1 q=>?_);cases f with
  |next=>exact ni q
  |ret v=>exact q
  |brk=>exact q
  |cont=>exact q
def Inv.quiet{pins:List (au×gE)}{Y:St}{H:Hp}{s:aq}(I:Inv X pins Y H s):interactive X.env=xn:=by simp[interactive,I.ok.kind]
def b8U(te:TE):TS:=λD Y H=>te Y H λ_ H1=>D.nx Y H1
def X1(he:PE X e te)(hs:eX e p4 pos.line X.env=pure xn:=by rfl):PS X (.Expr e pos) (b8U te):=by
  intro pins s Y H D I h;exact wpAny_Expr_any (thn (he pins s Y H _ I h) λv s1 ⟨x,H1,I1,r1,q1⟩=>⟨Y,H1,I1,q1⟩) I.quiet hs
def c0G(te:TE):TS:=λD Y H=>te Y H D.rt
def b1i(he:PE X e te):PS X (.Return (cz e) pos) (c0G te):=by
  intro pins s Y H D I h;exact wpAny_Return_some (thn (he pins s Y H _ I h) λv s1 ⟨x,H1,I1,r1,q1⟩=>⟨x,Y,H1,I1,r1,q1⟩)
def b8V(c:TT)(t u:TS):TS:=λD Y H=>c Y H λb H1=>if b=rp then t D Y H1 else u D Y H1
def b5V{c:Expr}{a b:List iz}{tc:TT}(hc:PT X c tc)(ha:PSs X a t)(hb:PSs X b u):PS X (.If c a b pos) (b8V tc t u):=by
  intro pins s Y H D I h;refine wpAny_If (thn (hc pins s Y H _ I h) λd s1 ⟨H1,I1,q1⟩=>?_);cases d with
  |true=>exact ha pins s1 Y H1 D I1 q1
  |false=>exact hb pins s1 Y H1 D I1 q1
def b6H:TS:=λ_ _ _=>False
def b1j:PS X st b6H:=λ_ _ _ _ _ _ h=>h.elim
end
abbrev TG:=V->St->Hp->(St->Hp->Prop)->Prop
abbrev TGs:=List V->St->Hp->(St->Hp->Prop)->Prop
def PG(X:Cx)(target:Expr)(t:TG):Prop:=
  ∀(pins:List (au×gE)) (s:aq) (Y:St) (H:Hp) (v:V) (u:aj) (Q:St->Hp->Prop),Inv X pins Y H s->RelV v u->t v Y H Q->
    aG (aT X.prog X.w) X.A (qB target X.env u) (λ_ s'=>∃Y' H',Inv X pins Y' H' s'/\Q Y' H') X.xe s
def PGs(X:Cx)(ts:List Expr)(t:TGs):Prop:=
  ∀(pins:List (au×gE)) (s:aq) (Y:St) (H:Hp) (vs:List V) (us:List aj) (Q:St->Hp->Prop),Inv X pins Y H s->Vals vs us->t vs Y H Q->
    aG (aT X.prog X.w) X.A (assignInOrder ((jd ts X.env).map (·.2)) us) (λ_ s'=>∃Y' H',Inv X pins Y' H' s'/\Q Y' H') X.xe s
section
variable {X:Cx}{pos:fQ}
def Z6(i:Nat):TG:=λv Y H Q=>Q (Y.set i (cz v)) H
def A9(hN:X.N.Nodup)(hi:X.N[i]?=cz x)(hx:Loc X.env.scope x)(hf:X.fn x=rp\/X.env.scope.names.lookup x=cz .local:=by first|exact .inl rfl|exact .inr rfl|assumption):PG X (.Name x pos) (Z6 i):=by
  intro pins s Y H v u Q I r h;exact wpAny_assign_Name (a2I I hN hi hx r (λs' I'=>⟨_,H,I',h⟩) hf)
def b6I:TGs:=λvs Y H Q=>vs=[]/\Q Y H
def a6h(t:TG)(u:TGs):TGs:=λvs Y H Q=>∃v r,vs=v::r/\t v Y H λY' H'=>u r Y' H' Q
def a2s:PGs X [] b6I:=by
  intro pins s Y H vs us Q I r h;obtain⟨e,h⟩:=h;subst e;cases r
  exact assignInOrder_nil ⟨Y,H,I,h⟩
def J7{e:Expr}{es:List Expr}{t:TG}{u:TGs}(h1:PG X e t)(h2:PGs X es u)
    (hs:(jd (e::es) X.env).map (·.2)=qB e X.env::(jd es X.env).map (·.2):=by rfl):PGs X (e::es) (a6h t u):=by
  intro pins s Y H vs us Q I r h;obtain⟨v,vr,e1,h⟩:=h;subst e1;cases r with
  |cons r rr=>
    rw[hs];refine assignInOrder_cons (thn (h1 pins s Y H _ _ _ I r h) λ_ s1 ⟨Y1,H1,I1,q1⟩=>?_);exact h2 pins s1 Y1 H1 _ _ Q I1 rr q1
def b8W(K:ae)(n:Nat)(t:TGs):TG:=λv Y H Q=>∃a xs,v=.ref a/\SqT K H a xs/\xs.length=n/\t xs Y H Q
def a7C(hc:X.calm=rp)(h:PGs X es t)
    (hn:(jd es X.env).length=n:=by rfl) (rS:(jd es X.env).findIdx? (·.1)=p4:=by rfl):PG X (.Tuple es k pos) (b8W X.K n t):=by
  intro pins s Y H v u Q I r hw;obtain⟨a,xs,e1,hq,hl,hw⟩:=hw;subst e1;cases r
  obtain⟨cQ,rv,ht,hz⟩:=I.tuple hq;refine assign_Tuple_tuple (I.ok.hd hc) ht (by simp[hn,<-hl,rv.length]) rS λh' hx=>?_
  have I1:Inv X pins Y H {s with heap:=h'}:=I.kept (t':=s.toks) λb o e=>hx b o (bK (aM e)) e
  exact h pins _ Y H xs _ Q I1 (by simpa using rv) hw
def b6J(te:TE)(g:TG):TS:=λD Y H=>te Y H λx H1=>g x Y H1 D.nx
def b6K{tg e:Expr}{te:TE}{g:TG}(he:PE X e te)(hg:PG X tg g)(hs:swapsWithSole [tg] e pos.line X.env=pure xn:=by rfl)(hw:swappedStores [tg] e X.env=pure p4:=by rfl)
    (h1:(jd [tg] X.env).map (·.2)=[qB tg X.env]:=by rfl):PS X (.Assign [tg] e pos) (b6J te g):=by
  intro pins s Y H D I h;refine wpAny_Assign_stores (thn (he pins s Y H _ I h) λv s1 ⟨x,H1,I1,r1,q1⟩=>?_) hs hw;rw[h1];exact thn (hg pins s1 Y H1 x v _ I1 r1 q1) λ_ s2 q=>q
def b1k{i:Nat}{x:bI}{e:Expr}{te:TE}{pos':fQ}(hN:X.N.Nodup)(hi:X.N[i]?=cz x)(hx:Loc X.env.scope x)(he:PE X e te)(hs:eX e (cz (.Name x pos')) pos.line X.env=pure xn:=by rfl)(hf:X.fn x=rp\/X.env.scope.names.lookup x=cz .local:=by first|exact .inl rfl|exact .inr rfl|assumption) :
    PS X (.Assign [.Name x pos'] e pos) (b6J te (Z6 i)):=by
  intro pins s Y H D I h;refine wpAny_Assign_Name (thn (he pins s Y H _ I h) λv s1 ⟨y,H1,I1,r1,q1⟩=>?_) hs;exact a2I I1 hN hi hx r1 (λs2 I2=>⟨_,H1,I2,q1⟩) hf
def b6L(c:TT)(tb:TS):TS:=λD Y H=>∃W:Nat->St->Hp->Prop,(∃m,W m Y H)/\∀m Y H,W m Y H->
  c Y H λb H1=>if b=rp then ∃N:St->Hp->Prop,(∀Y' H',N Y' H'->∃m',m'<m/\W m' Y' H')/\tb {D with nx:=N,ct:=N,bk:=D.nx} Y H1 else D.nx Y H1
def b1l{c:Expr}{body:List iz}{tc:TT}{tb:TS}(hp:kZ (aT X.prog X.w) X.A X.env X.xe)(hc:PT X c tc)(hb:PSs X body tb):PS X (.While c body [] pos) (b6L tc tb):=by
  intro pins s Y H D I h;obtain⟨W,⟨m0,w0⟩,turn⟩:=h;refine wpAny_While (codeAny_whileLoop (λn s'=>∃Y' H',Inv X pins Y' H' s'/\W n Y' H') ?_ m0 ⟨Y,H,I,w0⟩);rintro n s1 ⟨Y1,H1,I1,w1⟩;refine gO hp (thn (hc pins s1 Y1 H1 _ I1 (turn n Y1 H1 w1)) λb s2 ⟨H2,I2,q2⟩=>?_);cases b with
  |true=>
    obtain⟨N,hN,q2⟩:=q2;rw[aC rfl];refine gO hp (thn (hb pins s2 Y1 H2 _ I2 q2) λf s3 q3=>?_);cases f with
    |next=>
      obtain⟨Y3,H3,I3,n3⟩:=q3;obtain⟨m',hm,w3⟩:=hN Y3 H3 n3;exact⟨m',hm,Y3,H3,I3,w3⟩
    |cont=>
      obtain⟨Y3,H3,I3,n3⟩:=q3;obtain⟨m',hm,w3⟩:=hN Y3 H3 n3;exact⟨m',hm,Y3,H3,I3,w3⟩
    |brk=>exact q3
    |ret v=>exact q3
  |false=>
    rw[aI bo];exact ni ⟨Y1,H2,I2,q2⟩
end
structure It where
  go:Nat->Hp->Prop
  yld:Nat->Hp->V->Hp->Prop
  stop:Nat->Hp->Prop
def a0u(X:Cx)(pins:List (au×gE))(H:Hp)(b:au):Prop:=
  H b=p4/\b≠X.env.locals/\b∉X.fs/\(b∈X.ex\/X.s₀.heap.objs.size<=b)/\(∀x c,X.env.cells.lookup x=cz c->c≠b)/\∀p∈X.pn++pins,p.1≠b
def Inv.fpOk(I:Inv X pins Y H s)(hb:s.heap.objs.size<=b)(hn:H' b=p4):a0u X pins H' b:=by
  refine⟨hn,fD (bH I.lt hb),I.nofs hb,.inr (cU I.sz hb),λx c e z=>?_,λp hp z=>?_⟩
  · obtain⟨v,q⟩:=I.cell x c e
    exact absurd (bH q.lt (by rw[z];exact hb)) (dQ _)
  · exact absurd (bH (aM (I.pin p hp).1) (by rw[z];exact hb)) (dQ _)
structure Turn (P:bA) (w:bX) (K:ae) (tg:Expr) (J:It) (fp:List au) (it:au) (tn:Nat->cf->Prop):Prop where
  mem:it∈fp
  obj:∀i h,tn i h->∀b∈fp,∃o,h.get? b=cz o/\∀v,o.data≠.cell v
  keep:∀i h h',tn i h->(∀b∈fp,∀o,h.get? b=cz o->h'.get? b=cz o)->tn i h'
  item:∀(X:Cx),X.prog=P->X.w=w->X.K=K->X.calm=rp->∀(i:Nat) (pins:List (au×gE)) (s:aq) (Y:St) (H:Hp) (E:aj->aq->Prop),Inv X pins Y H s->(∀b∈fp,a0u X pins H b)->tn i s.heap->J.go i H->
    aG (aT P w) X.A (k_ (.ref it)) (λr s1=>∃u,r=cz u/\
      aG (aT P w) X.A (nk tg (.ref it) u) (λ_ s2=>∃x H',Inv X pins Y H' s2/\RelV x u/\J.yld i H x H'/\tn (i+1) s2.heap/\∀b∈fp,H' b=p4) E s1) E s
  done:∀(X:Cx),X.prog=P->X.w=w->X.K=K->X.calm=rp->∀(i:Nat) (pins:List (au×gE)) (s:aq) (Y:St) (H:Hp) (E:aj->aq->Prop),Inv X pins Y H s->(∀b∈fp,a0u X pins H b)->tn i s.heap->J.stop i H->
    aG (aT P w) X.A (k_ (.ref it)) (λr s1=>r=p4/\Inv X pins Y H s1) E s
  self:∀(A:bL) (i:Nat) (s:aq) (Q:aj->aq->Prop) (E:aj->aq->Prop),tn i s.heap->Q (.ref it) s->aG (aT P w) A (pyIter (.ref it)) Q E s
abbrev TI:=St->Hp->(It->Hp->Prop)->Prop
def PIE(X:Cx)(pins:List (au×gE))(Y:St)(tg:Expr)(R:It->Hp->Prop)(zq:aj)(s2:aq):Prop:=
  ∃(it:au) (fp:List au) (tn:Nat->cf->Prop) (J:It) (H':Hp),zq=.ref it/\Inv X pins Y H' s2/\Turn X.prog X.w X.K tg J fp it tn/\tn 0 s2.heap/\(∀b∈fp,a0u X pins H' b)/\R J H'
def PI(X:Cx)(tg iter:Expr)(wi:TI):Prop:=
  ∀(pins:List (au×gE)) (s:aq) (Y:St) (H:Hp) (R:It->Hp->Prop),Inv X pins Y H s->wi Y H R->
    aG (aT X.prog X.w) X.A (cG iter X.env) (λv s1=>aG (aT X.prog X.w) X.A (pyIter v) (PIE X pins Y tg R) X.xe s1) X.xe s
def a6i{s:aq}(ho:s.heap.get? it=cz o)(hc:o.cls=.type n)(hd:o.data=.fields vs)
    (hn:["enumerate","zip","dict_itemiterator","dict_reverseitemiterator","odict_iterator","itertools.zip_longest","itertools.pairwise"].contains n=xn) (hQ:Q () s):aG M A (nk tg (.ref it) u) Q E s:=by
  unfold nk;cases tg<;>first
    |exact ah hQ
    | (cases u<;>first
        |exact ah hQ
        | (refine ab (vX ho ?_)
           rw[hc,hd];show aG M A (if (["enumerate","zip","dict_itemiterator","dict_reverseitemiterator","odict_iterator","itertools.zip_longest","itertools.pairwise"].contains n&&vs[0]?==cz (fW _))=rp then _ else _) Q E s;rw[aI (by intro h;rw[hn,Bool.false_and]at h;cases h)];exact ah hQ))
def Itl(K:ae)(a:au):It:=
  ⟨λi H=>∃xs x,SqL K H a xs/\xs[i]?=cz x,λi H x H'=>H'=H/\∀xs,SqL K H a xs->xs[i]?=cz x,λi H=>∃xs,SqL K H a xs/\xs.length<=i⟩
def Itt(K:ae)(a:au):It:=
  ⟨λi H=>∃xs x,SqT K H a xs/\xs[i]?=cz x,λi H x H'=>H'=H/\∀xs,SqT K H a xs->xs[i]?=cz x,λi H=>∃xs,SqT K H a xs/\xs.length<=i⟩
def Itr(lo:Int)(n:Nat):It:=⟨λi _=>i<n,λi H x H'=>H'=H/\x=.int (lo+i),λi _=>n<=i⟩
def a9F{P:bA}{w:bX}{K:ae}{tg:Expr}(a it:au):Turn P w K tg (Itl K a) [it] it (λi h=>h.IsListIter it a i) where
  mem:=by simp
  obj:=λi h st b hb=>by
    have e:b=it:=by simpa using hb
    subst e;obtain⟨o,e,c,d⟩:=st;exact⟨o,e,λv z=>by rw[d]at z;cases z⟩
  keep:=λi h h' st k=>st.at λo e=>k it (by simp) o e
  item:=by
    intro X hP hw hK hc i pins s Y H E I hf st hg;subst hP hw hK;obtain⟨xs,x,hq,hx⟩:=hg;obtain⟨cQ,rv,p,hz⟩:=I.list hq;obtain⟨u,hu,ru⟩:=rv.get hx;obtain⟨f0,f1,f2,f3,f4,f5⟩:=hf it (by simp);refine wpAny_pyNext_list_item st p.isList (x:=u) (by simpa using hu) λh' cF sb=>?_
    have I1:Inv X pins Y H {s with heap:=h'}:=I.turned (t':=s.toks) (λb o hb e=>(sb.2 b hb).trans e) f0 f1 f3 f4 f5;obtain⟨o,e,c,d⟩:=id cF;exact⟨u,rfl,a6i (s:={s with heap:=h'}) e c d (by decide) ⟨x,H,I1,ru,⟨rfl,λys hy=>by rw[I.list_inj hy hq];exact hx⟩,cF,λb hb=>(hf b hb).1⟩⟩
  done:=by
    intro X hP hw hK hc i pins s Y H E I hf st hg;subst hP hw hK;obtain⟨xs,hq,hx⟩:=hg;obtain⟨cQ,rv,p,hz⟩:=I.list hq;obtain⟨f0,f1,f2,f3,f4,f5⟩:=hf it (by simp);have hl:=rv.length;exact wpAny_pyNext_list_end (I.ok.hd hc) st p.isList (by simp;omega) λh' eb=>⟨rfl,I.turned (t':=s.toks) (λb o hb e=>eb b o hb e) f0 f1 f3 f4 f5⟩
  self:=λ_ _ _ _ _ st h=>wpAny_pyIter_listiter st h
def a7D{P:bA}{w:bX}{K:ae}{tg:Expr}(a it:au):Turn P w K tg (Itt K a) [it] it (λi h=>h.IsTupleIter it a i) where
  mem:=by simp
  obj:=λi h st b hb=>by
    have e:b=it:=by simpa using hb
    subst e;obtain⟨o,e,c,d⟩:=st;exact⟨o,e,λv z=>by rw[d]at z;cases z⟩
  keep:=λi h h' st k=>st.at λo e=>k it (by simp) o e
  item:=by
    intro X hP hw hK hc i pins s Y H E I hf st hg;subst hP hw hK;obtain⟨xs,x,hq,hx⟩:=hg;obtain⟨cQ,rv,p,hz⟩:=I.tuple hq;obtain⟨u,hu,ru⟩:=rv.get hx;obtain⟨f0,f1,f2,f3,f4,f5⟩:=hf it (by simp);refine wpAny_pyNext_tuple_item st (show s.heap.IsTuple a cQ.toArray from p) (x:=u) (by simpa using hu) λh' cF sb=>?_
    have I1:Inv X pins Y H {s with heap:=h'}:=I.turned (t':=s.toks) (λb o hb e=>(sb.2 b hb).trans e) f0 f1 f3 f4 f5;obtain⟨o,e,c,d⟩:=id cF;exact⟨u,rfl,a6i (s:={s with heap:=h'}) e c d (by decide) ⟨x,H,I1,ru,⟨rfl,λys hy=>by rw[I.tuple_inj hy hq];exact hx⟩,cF,λb hb=>(hf b hb).1⟩⟩
  done:=by
    intro X hP hw hK hc i pins s Y H E I hf st hg;subst hP hw hK;obtain⟨xs,hq,hx⟩:=hg;obtain⟨cQ,rv,p,hz⟩:=I.tuple hq;obtain⟨f0,f1,f2,f3,f4,f5⟩:=hf it (by simp);have hl:=rv.length;exact wpAny_pyNext_tuple_end (I.ok.hd hc) st (show s.heap.IsTuple a cQ.toArray from p) (by simp;omega) λh' eb=>⟨rfl,I.turned (t':=s.toks) (λb o hb e=>eb b o hb e) f0 f1 f3 f4 f5⟩
  self:=λ_ _ _ _ _ st h=>wpAny_pyIter_tupleiter st h
def a7E{P:bA}{w:bX}{K:ae}{tg:Expr}(it:au)(lo:Int)(n:Nat):Turn P w K tg (Itr lo n) [it] it (λi h=>IsRangeIter h it (lo+(i:Nat)*1) ((n:Int)-(i:Nat)) 1) where
  mem:=by simp
  obj:=λi h st b hb=>by
    have e:b=it:=by simpa using hb
    subst e;exact⟨_,st,λv z=>by
      have z':Data.fields _=Data.cell v:=z;cases z'⟩
  keep:=λi h h' st k=>k it (by simp) _ st
  item:=by
    intro X hP hw hK hc i pins s Y H E I hf st hg;subst hP hw hK;obtain⟨f0,f1,f2,f3,f4,f5⟩:=hf it (by simp);have W:=Walks.range (prog:=X.prog) (w:=X.w) (I.ok.hd hc) it lo 1 n;refine W.item i s _ _ hg st λv h' tk hv cF kk=>?_
    obtain⟨t,rfl⟩:=hv;have I1:Inv X pins Y H {s with heap:=h',toks:=tk}:=I.turned (λb o hb e=>kk b o (by simpa using hb) e) f0 f1 f3 f4 f5;refine⟨_,rfl,a6i (s:={s with heap:=h',toks:=tk}) (n:="range_iterator") cF rfl rfl (by decide) ⟨.int (lo+i),H,I1,⟨t,?_⟩,⟨rfl,rfl⟩,cF,λb hb=>(hf b hb).1⟩⟩;rw[Int.mul_one]
  done:=by
    intro X hP hw hK hc i pins s Y H E I hf st hg;subst hP hw hK;obtain⟨f0,f1,f2,f3,f4,f5⟩:=hf it (by simp);exact wpAny_pyNext_range_end (I.ok.hd hc) st (by have:n<=i:=hg;omega) λh' eb=>⟨rfl,I.turned (t':=s.toks) (λb o hb e=>eb b o hb e) f0 f1 f3 f4 f5⟩
  self:=λ_ _ _ _ _ st h=>wpAny_pyIter_rangeiter st h
section
variable {X:Cx}{tg:Expr}
def b8X(K:ae)(tl:TE):TI:=λY H R=>tl Y H λx H1=>∃a,x=.ref a/\(∃xs,SqL K H1 a xs)/\R (Itl K a) H1
def c0H(K:ae)(tl:TE):TI:=λY H R=>tl Y H λx H1=>∃a,x=.ref a/\(∃xs,SqT K H1 a xs)/\R (Itt K a) H1
def a5i{l:Expr}{tl:TE}(hl:PE X l tl):PI X tg l (b8X X.K tl):=by
  intro pins s Y H R I h;refine thn (hl pins s Y H _ I h) λv s1 ⟨x,H1,I1,r1,q1⟩=>?_
  obtain⟨a,e,⟨xs,hq⟩,q⟩:=q1;subst e;cases r1
  obtain⟨cQ,rv,p,hz⟩:=I1.list hq;refine wpAny_pyIter_list p.isList ?_;refine⟨s1.heap.objs.size,[s1.heap.objs.size],_,_,H1,rfl,I1.kept (t':=s1.toks) λb o e=>af _ e,a9F a _,⟨_,aL _ rfl,rfl,rfl⟩,λb hb=>?_,q⟩;have e:b=s1.heap.objs.size:=by simpa using hb
  subst e;exact I1.fpOk (ay _) (I1.hok.fresh (ay _))
def b6M(hl:PE X l tl):PI X tg l (c0H X.K tl):=by
  intro pins s Y H R I h;refine thn (hl pins s Y H _ I h) λv s1 ⟨x,H1,I1,r1,q1⟩=>?_
  obtain⟨a,e,⟨xs,hq⟩,q⟩:=q1;subst e;cases r1
  obtain⟨cQ,rv,p,hz⟩:=I1.tuple hq;refine qd (show s1.heap.IsTuple a cQ.toArray from p) ?_;refine⟨s1.heap.objs.size,[s1.heap.objs.size],_,_,H1,rfl,I1.kept (t':=s1.toks) λb o e=>af _ e,a7D a _,⟨_,aL _ rfl,rfl,rfl⟩,λb hb=>?_,q⟩;have e:b=s1.heap.objs.size:=by simpa using hb
  subst e;exact I1.fpOk (ay _) (I1.hok.fresh (ay _))
def b1m{pins:List (au×gE)}{Y:St}{H:Hp}{s:aq}{R:It->Hp->Prop}{E:aj->aq->Prop}{lo hi:Int}{t u v:Tok}{tk:Nat}(I:Inv X pins Y H s)(h1:-(2^62)<=lo)(h2:lo<2^62)(h3:-(2^62)<=hi)(h4:hi<2^62)
    (q:R (Itr lo (hi-lo).toNat) H):aG (aT X.prog X.w) X.A (pyIter (.ref s.heap.objs.size)) (PIE X pins Y tg R) E {s with heap:=s.heap.push {cls:=.type "range",data:=.fields #[.int lo t,.int hi u,.int 1 v]},toks:=tk}:=by
  refine wpAny_pyIter_range (IsRange.new ..) (small_one h1 h2 h3 h4) ?_;have I1:Inv X pins Y H {s with heap:=s.heap.push {cls:=.type "range",data:=.fields #[.int lo t,.int hi u,.int 1 v]},toks:=tk}:=I.kept λb o e=>af _ e
  refine⟨(s.heap.push {cls:=.type "range",data:=.fields #[.int lo t,.int hi u,.int 1 v]}).objs.size,[(s.heap.push {cls:=.type "range",data:=.fields #[.int lo t,.int hi u,.int 1 v]}).objs.size],_,_,H,rfl,
    I1.kept (t':=tk) λb o e=>af _ e,a7E _ lo (hi-lo).toNat,?_,λb hb=>?_,q⟩
  · have e1:lo+((0:Nat):Int)*1=lo:=by simp
    have e2:(((hi-lo).toNat:Nat):Int)-((0:Nat):Int)=fF lo hi 1:=by rw[yZ];split<;>omega
    show IsRangeIter _ _ (lo+((0:Nat):Int)*1) ((((hi-lo).toNat:Nat):Int)-((0:Nat):Int)) 1;rw[e1,e2];exact aL _ rfl
  · have e:b=(s.heap.push {cls:=.type "range",data:=.fields #[.int lo t,.int hi u,.int 1 v]}).objs.size:=by simpa using hb
    subst e;exact I1.fpOk (ay _) (I1.hok.fresh (ay _))
def b8Y(ta:TA):TI:=λY H R=>ta Y H λvs H1=>∃j:Int,vs=[.int j]/\-(2^62)<=j/\j<2^62/\R (Itr 0 j.toNat) H1
def a9G{a:Expr}{ta:TA}{p pos:fQ}(hg:Gl X "range")(hm:X.mg "range"=p4)(ha:PA X [a] ta)(hs:ao [a] X.env=[(xn,cG a X.env)]:=by rfl):PI X tg (.Call (.Name "range" p) [a] [] pos) (b8Y ta):=by
  intro pins s Y H R I h;refine Call_ (a0g I hg hm boot_range (fC (thn (ha pos pins s Y H _ I h) λus s1 ⟨vs,H1,I1,r1,q1⟩=>?_) hs rfl));obtain⟨j,e,q1,q2,q⟩:=q1;subst e;cases r1 with
  |cons r rr=>
    cases rr
    obtain⟨t,rfl⟩:=r;exact call_range_1 (b1m I1 (by omega) (by omega) q1 q2 (by simpa using q))
def c0I(wi:TI)(g:TG)(tb:TS):TS:=λD Y H=>wi Y H λJ H1=>∃W:Nat->Nat->St->Hp->Prop,(∃m,W 0 m Y H1)/\∀i m Y H,W i m Y H->
  (J.stop i H/\D.nx Y H)\/(J.go i H/\∃N:St->Hp->Prop,(∀Y' H',N Y' H'->∃m',m'<m/\W (i+1) m' Y' H')/\∀x H',J.yld i H x H'->g x Y H' λY2 H2=>tb {D with nx:=N,ct:=N,bk:=D.nx} Y2 H2)
def a5j(fp:List au)(h:cf):List (au×gE):=fp.filterMap λb=>(h.get? b).map λo=>(b,o)
def D7{h:cf}(hb:b∈fp)(e:h.get? b=cz o):(b,o)∈a5j fp h:=eO.mpr ⟨b,hb,by rw[e];rfl⟩
def a9H(hp:p∈a5j fp h):p.1∈fp/\h.get? p.1=cz p.2:=by
  obtain⟨b,hb,e⟩:=eO.mp hp;cases q:h.get? b with
  |none=>rw[q]at e;cases e
  |some o=>
    rw[q]at e;have e':(b,o)=p:=aK e;subst e';exact⟨hb,q⟩
def Inv.pinned(I:Inv X pins Y H s)(hf:∀b∈fp,a0u X pins H b)(ho:∀b∈fp,∃o,s.heap.get? b=cz o/\∀v,o.data≠.cell v):Inv X (pins++a5j fp s.heap) Y H s:=
  I.pins_of λp hp=>(az.mp hp).elim (λz=>I.pin p (ax _ z)) λz=>by
    obtain⟨hb,e⟩:=a9H z;obtain⟨f0,f1,f2,_⟩:=hf p.1 hb;obtain⟨o,e',d⟩:=ho p.1 hb;rw[e]at e';cases e';exact⟨e,f0,f1,f2,d⟩
def Inv.unpinned(I:Inv X (pins++pl) Y H s):Inv X pins Y H s:=I.pins_of λp hp=>I.pin p (ax _ (aO _ hp))
def a2J(hp:kZ (aT X.prog X.w) X.A X.env X.xe)(hc:X.calm=rp)(hi:PI X tg iter wi)(hg:PG X tg g)(hb:PSs X body tb)
    (hs:∀x,dF iter X.env x=pure x:=by intro _;rfl):PS X (.For tg iter body [] pos) (c0I wi g tb):=by
  intro pins s Y H D I h;refine wpAny_For (thn (hi pins s Y H _ I h) λv s1 h1=>thn h1 λzq s2 h2=>?_) hs;obtain⟨it,fp,tn,J,H2,e,I2,T,kX,f2,W,⟨m0,w0⟩,turn⟩:=h2;subst e;have pd:∀{H':Hp},(∀b∈fp,H' b=p4)->∀b∈fp,a0u X pins H' b:=λhn b hb=>⟨hn b hb,(f2 b hb).2⟩
  refine codeAny_forLoop_any (λn s'=>∃i Y' H',Inv X pins Y' H' s'/\tn i s'.heap/\(∀b∈fp,H' b=p4)/\W i n Y' H') ?_ m0 ⟨0,Y,H2,I2,kX,λb hb=>(f2 b hb).1,w0⟩;rintro n s3 ⟨i,Y3,H3,I3,jS,xH,w3⟩;rcases turn i n Y3 H3 w3 with⟨stop,qn⟩|⟨go,N,hN,step⟩
  · refine gO hp (thn (T.done X rfl rfl rfl hc i pins s3 Y3 H3 X.xe I3 (pd xH) jS stop) λr s4 ⟨hr,I4⟩=>?_)
    subst hr;exact ni ⟨Y3,H3,I4,qn⟩
  · refine gO hp (thn (T.item X rfl rfl rfl hc i pins s3 Y3 H3 X.xe I3 (pd xH) jS go) λr s4 ⟨u,hr,h4⟩=>?_)
    subst hr;refine gO hp (thn h4 λ_ s5 ⟨x,H5,I5,r5,y5,qR,AJ⟩=>?_);have AY:=I5.pinned (pd AJ) (T.obj _ _ qR);refine gO hp (thn (hg _ s5 Y3 H5 x u _ AY r5 (step x H5 y5)) λ_ s6 ⟨Y6,H6,I6,q6⟩=>?_);refine gO hp (thn (hb _ s6 Y6 H6 _ I6 q6) λf s7 q7=>?_);have again:∀{Y7:St} {H7:Hp},Inv X (pins++a5j fp s5.heap) Y7 H7 s7->N Y7 H7->∃m,m<n/\∃i Y' H',Inv X pins Y' H' s7/\tn i s7.heap/\(∀b∈fp,H' b=p4)/\W i m Y' H':=λ{Y7 H7} I7 n7=>by
      obtain⟨m',hm,w7⟩:=hN Y7 H7 n7;refine⟨m',hm,i+1,Y7,H7,I7.unpinned,T.keep _ _ _ qR λb hb o e=>(I7.pin (b,o) (ax _ (ax _ (D7 hb e)))).1,λb hb=>?_,w7⟩;obtain⟨o,e,d⟩:=T.obj _ _ qR b hb;exact (I7.pin (b,o) (ax _ (ax _ (D7 hb e)))).2.1
    cases f with
    |next=>obtain⟨Y7,H7,I7,n7⟩:=q7;exact again I7 n7
    |cont=>obtain⟨Y7,H7,I7,n7⟩:=q7;exact again I7 n7
    |brk=>obtain⟨Y7,H7,I7,q7⟩:=q7;exact⟨Y7,H7,I7.unpinned,q7⟩
    |ret v=>obtain⟨x7,Y7,H7,I7,r7,q7⟩:=q7;exact⟨x7,Y7,H7,I7.unpinned,r7,q7⟩
end
abbrev R2:=V->V->Hp->VK->Prop
def OpR(X:Cx)(f:aj->aj->yK aj)(r:R2):Prop:=
  ∀(pins:List (au×gE)) (s:aq) (Y:St) (H:Hp) (x y:V) (v u:aj) (Q:VK),Inv X pins Y H s->RelV x v->RelV y u->r x y H Q->
    aG (aT X.prog X.w) X.A (f v u) (EP X pins Y Q) X.xe s
def CallR(X:Cx)(f:aj)(r:List V->Hp->VK->Prop):Prop:=
  ∀(pins:List (au×gE)) (s:aq) (Y:St) (H:Hp) (xs:List V) (us:List aj) (Q:VK),Inv X pins Y H s->Vals xs us->r xs H Q->
    aG (aT X.prog X.w) X.A (call f us) (EP X pins Y Q) X.xe s
def c0J(X:Cx)(r:V->Hp->(Bool->Hp->Prop)->Prop):Prop:=
  ∀(pins:List (au×gE)) (s:aq) (Y:St) (H:Hp) (x:V) (v:aj) (Q:Bool->Hp->Prop),Inv X pins Y H s->RelV x v->r x H Q->
    aG (aT X.prog X.w) X.A (v_ v) (TP X pins Y Q) X.xe s
def tOp(r:R2)(ta tb:TE):TE:=λY H Q=>ta Y H λx H1=>tb Y H1 λy H2=>r x y H2 Q
def rI(C:Int->Int->Prop)(g:Int->Int->V):R2:=λx y H Q=>∃i j,x=.int i/\y=.int j/\C i j/\Q (g i j) H
def rI0(g:Int->Int->V):R2:=λx y H Q=>∃i j,x=.int i/\y=.int j/\Q (g i j) H
section
variable {X:Cx}{a b c:Expr}{ta tb tc:TE}{pos:fQ}
def b6N(ha:PE X a ta)(hb:PE X b tb){pins:List (au×gE)}{s:aq}{Y:St}{H:Hp}{R:V->V->Hp->Prop}(I:Inv X pins Y H s)
    (h:ta Y H λx H1=>tb Y H1 λy H2=>R x y H2) {Q:aj->aq->Prop} {f:aj->aj->yK aj}
    (hf:∀v u s2 x y H2,Inv X pins Y H2 s2->RelV x v->RelV y u->R x y H2->aG (aT X.prog X.w) X.A (f v u) Q X.xe s2) :
    aG (aT X.prog X.w) X.A (cG a X.env) (λv s₁=>aG (aT X.prog X.w) X.A (cG b X.env) (λu s₂=>aG (aT X.prog X.w) X.A (f v u) Q X.xe s₂) X.xe s₁) X.xe s:=by
  refine thn (ha pins s Y H _ I h) λv s1 ⟨x,H1,I1,r1,q1⟩=>?_
  refine thn (hb pins s1 Y H1 _ I1 q1) λu s2 ⟨y,H2,I2,r2,q2⟩=>?_
  exact hf v u s2 x y H2 I2 r1 r2 q2
def b1n{op:Operator}{r:R2}(ho:OpR X (fA op) r)(ha:PE X a ta)(hb:PE X b tb):PE X (.BinOp a op b pos) (tOp r ta tb):=by
  intro pins s Y H Q I h;exact wpAny_BinOp (b6N ha hb I h λv u s2 x y H2 I2 rx ry q=>ho pins s2 Y H2 x y v u Q I2 rx ry q)
def opI{f:aj->aj->yK aj}{C:Int->Int->Prop}{g:Int->Int->Int}
    (rule:∀(i j:Int) (t u:Tok) (s:aq) (Q:aj->aq->Prop) (E:aj->aq->Prop),C i j->Q (.int (g i j) s.toks) {s with toks:=s.toks+1}->aG (aT X.prog X.w) X.A (f (.int i t) (.int j u)) Q E s) :
    OpR X f (rI C λi j=>.int (g i j)):=by
  intro pins s Y H x y v u Q I rx ry h;obtain⟨i,j,rfl,rfl,hc,q⟩:=h;obtain⟨t,rfl⟩:=rx;obtain⟨t',rfl⟩:=ry;exact rule i j t t' s _ _ hc ⟨.int (g i j),H,I.tok _,⟨_,rfl⟩,q⟩
def b8Z{f:aj->aj->yK aj}{g:Int->Int->Int}
    (rule:∀(i j:Int) (t u:Tok) (s:aq) (Q:aj->aq->Prop) (E:aj->aq->Prop),Q (.int (g i j) s.toks) {s with toks:=s.toks+1}->aG (aT X.prog X.w) X.A (f (.int i t) (.int j u)) Q E s) :
    OpR X f (rI0 λi j=>.int (g i j)):=by
  intro pins s Y H x y v u Q I rx ry h;obtain⟨i,j,rfl,rfl,q⟩:=h;obtain⟨t,rfl⟩:=rx;obtain⟨t',rfl⟩:=ry;exact rule i j t t' s _ _ ⟨.int (g i j),H,I.tok _,⟨_,rfl⟩,q⟩
def b3Z{f:aj->aj->yK aj}{g:Int->Int->Bool}
    (rule:∀(i j:Int) (t u:Tok) (s:aq) (Q:aj->aq->Prop) (E:aj->aq->Prop),Q (.bool (g i j)) s->aG (aT X.prog X.w) X.A (f (.int i t) (.int j u)) Q E s) :
    OpR X f (rI0 λi j=>.bl (g i j)):=by
  intro pins s Y H x y v u Q I rx ry h;obtain⟨i,j,rfl,rfl,q⟩:=h;obtain⟨t,rfl⟩:=rx;obtain⟨t',rfl⟩:=ry;exact rule i j t t' s _ _ ⟨.bl (g i j),H,I,rfl,q⟩
def c0K(i j:Int):Prop:=0<j/\j<1073741824
def c0L(i j:Int):Prop:=0<=j/\j<=1000000/\i.natAbs<2^64
def CMul(i j:Int):Prop:=(-(2^64)<i/\i<2^64)\/(-(2^64)<j/\j<2^64)
def CMul.ok{i j:Int}(h:CMul i j):IntMulOk i j:=by
  rcases h with⟨h1,h2⟩|⟨h1,h2⟩
  · exact .of_left (intBits_le_64 h1 h2)
  · exact .of_right (intBits_le_64 h1 h2)
def b6O:OpR X (fA .Add) (rI0 λi j=>.int (i+j)):=b8Z λ_ _ _ _ _ _ _ q=>add_int q
def b6P:OpR X (fA .Sub) (rI0 λi j=>.int (i-j)):=b8Z λ_ _ _ _ _ _ _ q=>sub_int q
def b6Q:OpR X (fA .Mult) (rI CMul λi j=>.int (i*j)):=opI λ_ _ _ _ _ _ _ hc q=>mul_int q hc.ok
def b4a:OpR X (fA .FloorDiv) (rI c0K λi j=>.int (i / j)):=opI λi j _ _ _ _ _ hc q=>by
  have h1:(0:Int)<j:=hc.1;have h2:j<1073741824:=hc.2;exact floordiv_int (by omega) (by rw[Int.fdiv_eq_ediv_of_nonneg i (by omega)];exact q) (.inl (PyProof.noPylong_small (by omega)))
def b6R:OpR X (fA .Mod) (rI (λ_ j=>0<j) λi j=>.int (i % j)):=opI λi j _ _ _ _ _ hc q=>by
  have h1:(0:Int)<j:=hc;exact mod_int' (by omega) (by rw[Int.fmod_eq_emod_of_nonneg i (by omega)];exact q)
def b6S:OpR X (fA .Pow) (rI c0L λi j=>.int (i^j.toNat)):=opI λ_ _ _ _ _ _ _ hc q=>pow_int_small hc.1 hc.2.1 hc.2.2 q
def b1o(I:Inv X pins Y H s)(q:Q (.bl k) H)(e:k=k'):EP X pins Y Q (.bool k') s:=by
  subst e;exact⟨.bl k,H,I,rfl,q⟩
def b9a:OpR X (bU .Lt) (rI0 λi j=>.bl (decide (i<j))):=b3Z λ_ _ _ _ _ _ _ q=>lt_int q
def b9b:OpR X (bU .LtE) (rI0 λi j=>.bl (decide (i<=j))):=b3Z λ_ _ _ _ _ _ _ q=>le_int q
def b9c:OpR X (bU .Gt) (rI0 λi j=>.bl (decide (j<i))):=b3Z λ_ _ _ _ _ _ _ q=>gt_int q
def b9d:OpR X (bU .GtE) (rI0 λi j=>.bl (decide (j<=i))):=b3Z λ_ _ _ _ _ _ _ q=>ge_int q
def b6T:OpR X (bU .Is) (λx y H Q=>y=.non/\Q (.bl (decide (x=.non))) H):=by
  intro pins s Y H x y v u Q I rx ry h;obtain⟨rfl,q⟩:=h;cases ry
  refine is_none_gen (b1o I q ?_);cases x<;>first
    | (cases rx;rfl)
    | (obtain⟨t,rfl⟩:=rx;rfl)
def b4b:OpR X (bU .IsNot) (λx y H Q=>y=.non/\Q (.bl (!decide (x=.non))) H):=by
  intro pins s Y H x y v u Q I rx ry h;obtain⟨rfl,q⟩:=h;cases ry
  refine isnot_none_gen (b1o I q ?_);cases x<;>first
    | (cases rx;rfl)
    | (obtain⟨t,rfl⟩:=rx;rfl)
def a0h(b:Expr)(h:op≠.In:=by decide)(h2:op≠.NotIn:=by decide):fq op b=xn:=by
  have e1:(op==CmpOp.In)=xn:=by cases op<;>first|rfl|exact absurd rfl h
  have e2:(op==CmpOp.NotIn)=xn:=by cases op<;>first|rfl|exact absurd rfl h2
  cases b<;>simp[fq,e1,e2]
def a8M{op:CmpOp}{r:R2}(ho:OpR X (bU op) r)(ha:PE X a ta)(hb:PE X b tb)(hm:fq op b=xn):PE X (.Compare a [op] [b] pos) (tOp r ta tb):=by
  intro pins s Y H Q I h;exact wpAny_Compare1 (b6N ha hb I h λv u s2 x y H2 I2 rx ry q=>ho pins s2 Y H2 x y v u Q I2 rx ry q) hm
def b1p(t:TE):TT:=λY H Q=>t Y H λx H'=>∃k,x=.bl k/\Q k H'
def a0v(ho:OpR X (bU op) r)(ha:PE X a ta)(hb:PE X b tb)(hm:fq op b=xn):PT X (.Compare a [op] [b] pos) (b1p (tOp r ta tb)):=by
  intro pins s Y H Q I h;refine wpAny_isTrue_Compare1 (thn (ha pins s Y H _ I h) λv s1 ⟨x,H1,I1,r1,q1⟩=>thn (hb pins s1 Y H1 _ I1 q1) λu s2 ⟨y,H2,I2,r2,q2⟩=>
    thn (ho pins s2 Y H2 x y v u _ I2 r1 r2 q2) λc s3 ⟨z,H3,I3,r3,k,e,q3⟩=>?_) hm
  subst e;cases r3
  exact eK ⟨H3,I3,q3⟩
def b6U(r r':R2)(ta tb tc:TE):TE:=λY H Q=>ta Y H λx H1=>tb Y H1 λy H2=>r x y H2 λz H3=>∃k,z=.bl k/\
  (if k=rp then tc Y H3 λw' H4=>r' y w' H4 Q else Q (.bl xn) H3)
def b1q(ho:OpR X (bU op) r)(nS:OpR X (bU vB) r')(ha:PE X a ta)(hb:PE X b tb)(hc:PE X c tc)
    (hm:lastMarks [op,vB] [b,c]=xn:=by with_unfolding_all rfl):PT X (.Compare a [op,vB] [b,c] pos) (b1p (b6U r r' ta tb tc)):=by
  intro pins s Y H Q I h;refine isTrue_chain (thn (ha pins s Y H _ I h) λv s1 ⟨x,H1,I1,r1,q1⟩=>test_link (thn (hb pins s1 Y H1 _ I1 q1) λu s2 ⟨y,H2,I2,r2,q2⟩=>
    thn (ho pins s2 Y H2 x y v u _ I2 r1 r2 q2) λd s3 ⟨z,H3,I3,r3,k,e,q3⟩=>?_)) hm
  subst e;cases r3
  refine eK ?_;cases k with
  |false=>
    obtain⟨k',e',q'⟩:=q3;cases e'
    exact ite_ff ⟨H3,I3,q'⟩
  |true=>
    refine ite_tt (test_last (thn (hc pins s3 Y H3 _ I3 q3) λw' s4 ⟨z',H4,I4,r4,q4⟩=>thn (nS pins s4 Y H4 y z' u w' _ I4 r2 r4 q4) λd' s5 ⟨z2,H5,I5,r5,k2,e2,q5⟩=>?_));subst e2;cases r5
    exact eK ⟨H5,I5,q5⟩
def b6V(K:ae)(x:V)(H:Hp)(k:Bool):Prop:=
  match x with
  |.non=>k=xn
  |.bl b=>k=b
  |.int i=>k=(i !=0)
  |.str y=>y.length<=aV/\k=((y.length:Int)!=0)
  |.byt y=>y.size<=aV/\k=((y.size:Int)!=0)
  |.ref p=>(∃xs,SqL K H p xs/\k=!xs.isEmpty)\/(∃xs,SqT K H p xs/\k=!xs.isEmpty)\/∃kvs,H p=cz (.dK kvs)/\k=!kvs.isEmpty
  |_=>False
def a7F{κ:Type}{kvs:List (κ×V)}{vs:List (κ×aj)}(r:KV kvs vs):(!vs.isEmpty)=!kvs.isEmpty:=by
  cases r<;>rfl
def a2K{xs:List V}{cQ:List aj}(r:Vals xs cQ):(!cQ.toArray.isEmpty)=!xs.isEmpty:=by
  cases r<;>simp
def a2L:(aV:Nat)<2^63:=by rw[cJ];decide
def b6W:c0J X (λx H Q=>∃k,b6V X.K x H k/\Q k H):=by
  intro pins s Y H x v Q I rx h;obtain⟨k,e,q⟩:=h;have hl:=a2L;have hs:aV=16777216:=cJ;cases x with
  |non=>
    cases rx
    have e':k=xn:=e;subst e';exact truthy_none ⟨H,I,q⟩
  |bl b=>
    cases rx
    have e':k=b:=e;subst e';exact eK ⟨H,I,q⟩
  |int i=>
    obtain⟨t,rfl⟩:=rx;have e':k=(i !=0):=e;subst e';exact PySem.P.truthy_int ⟨H,I,q⟩
  |str y=>
    obtain⟨t,rfl⟩:=rx;obtain⟨hy,e'⟩:y.length<=aV/\k=((y.length:Int)!=0):=e;subst e';exact PySem.P.truthy_str (by omega) ⟨H,I.tok _,q⟩
  |byt y=>
    obtain⟨t,rfl⟩:=rx;obtain⟨hy,e'⟩:y.size<=aV/\k=((y.size:Int)!=0):=e;subst e';exact PySem.W.truthy_bytes (by omega) ⟨H,I.tok _,q⟩
  |ref p=>
    cases rx
    have e':(∃xs,SqL X.K H p xs/\k=!xs.isEmpty)\/(∃xs,SqT X.K H p xs/\k=!xs.isEmpty)\/∃kvs,H p=cz (.dK kvs)/\k=!kvs.isEmpty:=e;rcases e' with⟨xs,hx,e'⟩|⟨xs,hx,e'⟩|⟨kvs,hx,e'⟩
    · subst e'
      obtain⟨cQ,r,pl,hz⟩:=I.list hx;have hlen:=r.length;exact wpAny_truthy_list pl.isList (by simp only[bx];omega) ⟨H,I.tok _,by rw[a2K r];exact q⟩
    · subst e'
      obtain⟨cQ,r,pl,hz⟩:=I.tuple hx;have hlen:=r.length;exact truthy_tuple pl (by simp only[bx];omega) ⟨H,I.tok _,by rw[a2K r];exact q⟩
    · subst e'
      obtain⟨hz,hS,vs,r,m⟩:kvs.length<=aV/\(p==df)=xn/\∃vs,KV kvs vs/\s.heap.DictOf (a5c X.prog X.w) p vs:=I.hok p _ hx;have hlen:kvs.length=vs.length:=cS r;exact wpAny_truthy_dict hS m (by omega) ⟨H,I.tok _,by rw[a7F r];exact q⟩
  |_=>exact (show False from e).elim
def b1r(ha:PE X a ta)(he:∀whole,so a X.env whole=(do let v <-whole;standAt a.pos;rd [v] (v_ v))) :
    PT X a (λY H Q=>ta Y H λx H'=>∃k,b6V X.K x H' k/\Q k H'):=by
  intro pins s Y H Q I h;exact isTrue_plain (thn (ha pins s Y H _ I h) λv s1 ⟨x,H1,I1,r1,q1⟩=>b6W pins s1 Y H1 x v Q I1 r1 q1) (he _)
def vals1(r:Vals [x] us):∃u,us=[u]/\RelV x u:=by
  cases r with
  |cons r1 r2=>cases r2;exact⟨_,rfl,r1⟩
def vals2(r:Vals [x,y] us):∃u w',us=[u,w']/\RelV x u/\RelV y w':=by
  cases r with
  |cons r1 r2=>
    cases r2 with
    |cons r3 r4=>cases r4;exact⟨_,_,rfl,r1,r3⟩
end
structure ObjM (h:cf) (x dx C:au) (mA:bI->Option aj):Prop where
  obj:h.get? x=cz (qC C dx)
  ns:h.Ns1 dx mA
  ne:dx≠x
def a9I{h:cf}(n:h.Ns1 dx mA):∃od,h.get? dx=cz od/\∀name,rK name od=cz (mA name):=by
  obtain⟨o,es,ep,ho,hd,hk,_,hm⟩:=n;refine⟨o,ho,λname=>?_⟩;have e:=hm name;unfold nsFind findBy at e;rw[<-Array.find?_toList]at e;unfold rK;rw[hd]
  dsimp only
  split
  · rename_i y q
    rw[q]at e;exact d_ cz e
  · rename_i q
    rw[q]at e;have a:es.toList.any (·.refKey)=xn:=by
      rw[cI];intro y hy;obtain⟨z,t,jU⟩:=hk y (et.mp hy);simp[eY.refKey,jU]
    have a':¬ es.toList.any (·.refKey)=rp:=by rw[a];exact bo
    rw[aI a'];exact d_ cz e
def ObjM.look(I:ObjM h x dx C mA):∃od,PySem.W.InstAt h x (qC C dx) C (cz od)/\∀name,rK name od=cz (mA name):=
  let⟨od,ho,hl⟩:=a9I I.ns
  ⟨od,⟨I.obj,rfl,rfl,ho⟩,hl⟩
section
variable {P:bA}{w:bX}{H H':Hp}{h h':cf}{a C dx:au}{fs kN:List (bI×V)}
def b4c(hok:HOk P w H h)(e:H a=cz (.ins C dx fs)):∃mA,ObjM h a dx C mA/\(∀f,b6x (fs.lookup f) (mA f))/\PySem.Within mA (fs.map (·.1))/\fs.length<=1000/\H dx=cz (.own a):=by
  obtain⟨d,z,ne,ob,mA,n,r,q⟩:=(show ObjOk P w H h a (.ins C dx fs) from hok a _ e);exact⟨mA,⟨ob,n,ne⟩,r,q,z,d⟩
end
structure Cls (K:ae) (C:au):Prop where
  pg:GQ K C bI.empty=rp
  hd:PySem.W.hasDictIn K C=rp
  po:PySem.W.plainOver K C=rp
  sa:kn K (.ref C) "__setattr__"=cz (cz (.builtin "object.__setattr__"))
def Cls.get{K:ae}{C:au}(c:Cls K C)(f:bI):GQ K C f=rp:=c.pg
structure Con (K:ae) (C:au) (f:bI) (v:V) (u:aj):Prop where
  at_:kn K (.ref C) f=cz (cz u)
  rel:RelV v u
  get:CV K u "__get__"=cz p4
  cp:PySem.W.copiedNames.contains f=xn
structure Meth (K:ae) (C:au) (m:bI) (f:au):Prop where
  at_:kn K (.ref C) m=cz (cz (.ref f))
  fn:PySem.W.isFn K (.ref f)=rp
  kp:gj K (.ref f)=rp
section
variable {X:Cx}{pins:List (au×gE)}{Y:St}{H:Hp}{s:aq}{A:bL}{E:aj->aq->Prop}{Q:aj->aq->Prop}{c:aj}{b:Bool}
inductive TyOf (K:ae) (H:Hp):V->aj->Prop where
  |non:TyOf K H .non (.type "NoneType")
  |bl (x:Bool):TyOf K H (.bl x) (.type "bool")
  |int (i:Int):TyOf K H (.int i) (.type "int")
  |str (x:bI):TyOf K H (.str x) (.type "str")
  |flt (x:UInt64):TyOf K H (.flt x) (.type "float")
  |lst {a:au} {xs:List V} (e:H a=cz (.lst xs)):TyOf K H (.ref a) (.type "list")
  |frz {a:au} {o:gE} {xs:List V} (e:H a=cz (.frz o (.lst xs))):TyOf K H (.ref a) (.type "list")
  |tup {a:au} {xs:List V} (e:H a=cz (.tup xs)):TyOf K H (.ref a) (.type "tuple")
  |dK {a:au} {kvs:List (Key×V)} (e:H a=cz (.dK kvs)):TyOf K H (.ref a) (.type "dict")
  |dT {a:au} {kvs:List (List Key×V)} (e:H a=cz (.dT kvs)):TyOf K H (.ref a) (.type "dict")
  |ins {a C dx:au} {fs:List (bI×V)} (e:H a=cz (.ins C dx fs)) (cl:Cls K C) (ha:kn K (.ref C) "__class__"=cz (cz (.builtin "object.__class__")))
      (hn:CV K (.builtin "object.__class__") "__get__"=cz (cz (.builtin "getset_descriptor.__get__"))) (BO:PySem.W.takesIn K (.builtin "object.__class__")=cz rp)
      (hm:PySem.W.mroIn K C (.type "object")=cz rp):TyOf K H (.ref a) (.ref C)
def a9J(I:Inv X pins Y H s)(rx:RelV x u)(ty:TyOf X.K H x t)(e:fM X.K t c=cz b)(h:∀tk,Q (.bool b) {s with toks:=tk}) :
    aG (aT X.prog X.w) A (call (.builtin "isinstance") [u,c]) Q E s:=by
  cases ty with
  |non=>cases (show u=bb from rx);exact cW PySem.W.kitx_none I.kIn km e (λz=>nomatch z) h
  |bl y=>cases (show u=jW y from rx);exact cW PySem.W.kitx_bool I.kIn km e (λz=>nomatch z) h
  |int i=>obtain⟨t,q⟩:=(show ∃t,u=iy i t from rx);cases q;exact cW PySem.W.kitx_int I.kIn km e (λz=>nomatch z) h
  |str y=>obtain⟨t,q⟩:=(show ∃t,u=sT y t from rx);cases q;exact cW PySem.W.kitx_str I.kIn km e (λz=>nomatch z) h
  |flt y=>obtain⟨t,q⟩:=(show ∃t,u=aj.float y t from rx);cases q;exact cW PySem.W.kitx_float I.kIn km e (λz=>nomatch z) h
  |@lst a xs ea=>
    cases (show u=be a from rx)
    obtain⟨_,_,n,_,h1⟩:=(show ObjOk X.prog X.w H s.heap a (.lst xs) from I.hok a _ ea);exact cW oO I.kIn ⟨_,h1,rfl⟩ e (λz=>nomatch z) h
  |@frz a ob xs ea=>
    cases (show u=be a from rx)
    obtain⟨_,_,_,n,_,h1⟩:=(show ObjOk X.prog X.w H s.heap a (.frz ob (.lst xs)) from I.hok a _ ea);exact cW oO I.kIn ⟨_,h1,rfl⟩ e (λz=>nomatch z) h
  |@tup a xs ea=>
    cases (show u=be a from rx)
    obtain⟨_,_,_,p⟩:=(show ObjOk X.prog X.w H s.heap a (.tup xs) from I.hok a _ ea);obtain⟨o,h1,h2,_⟩:=p;exact cW AW I.kIn ⟨o,h1,h2⟩ e (λz=>nomatch z) h
  |@dK a kvs ea=>
    cases (show u=be a from rx)
    obtain⟨_,_,vs,_,p⟩:=(show ObjOk X.prog X.w H s.heap a (.dK kvs) from I.hok a _ ea);obtain⟨o,es,ep,h1,h2,_⟩:=p;exact cW oP I.kIn ⟨o,h1,h2.1⟩ e (λz=>nomatch z) h
  |@dT a kvs ea=>
    cases (show u=be a from rx)
    obtain⟨_,_,xs,_,o,es,ep,h1,h2,_⟩:=(show ObjOk X.prog X.w H s.heap a (.dT kvs) from I.hok a _ ea);exact cW oP I.kIn ⟨o,h1,h2.1⟩ e (λz=>nomatch z) h
  |@ins a C dx fs ea cl ha hn BO hm=>
    cases (show u=be a from rx)
    obtain⟨mA,O,_⟩:=b4c I.hok ea;obtain⟨od,J,_⟩:=O.look;exact cW (PySem.W.kitx_own (cl.get _) cl.hd ha hn BO hm) I.kIn J e (λz=>nomatch z) h
end
structure Room (k:Nat) (A:bL):Prop where
  hd:A.handled=p4
  dp:A.depth+3*k+5<recursionLimit
  un:A.units+16*k+200<du
def Room.mono(r:Room k A)(h:j<=k):Room j A:=⟨r.hd,by have:=r.dp;omega,by have:=r.un;omega⟩
theorem Room.deeper(r:Room (k+1) A)(env:pZ):Room k (A.deeper env):=
  ⟨r.hd,by have:=r.dp;show A.depth+1+3*k+5<_;omega,by have:=r.un;show A.units+3+16*k+200<_;omega⟩
theorem Room.depth(r:Room k A):A.depth<recursionLimit:=by have:=r.dp;omega
theorem Room.units(r:Room k A):A.units+64<du:=by have:=r.un;omega
def c0M:TA:=λ_ H Q=>Q [] H
def b9e(ta:TE)(tr:TA):TA:=λY H Q=>ta Y H λx H1=>tr Y H1 λxs H2=>Q (x::xs) H2
section
variable {X:Cx}{e:Expr}{es:List Expr}{te:TE}{t:TA}{pos:fQ}
def o7:PA X [] c0M:=λ_ _ _ _ H Q I h=>Calls.spliced_nil ⟨[],H,I,.nil,h⟩
def k9(ha:PE X e te)(hr:PA X es t)(hs:ao (e::es) X.env=(xn,cG e X.env)::ao es X.env:=by rfl):PA X (e::es) (b9e te t):=by
  intro pos pins s Y H Q I h;rw[hs];show aG _ _ (spliced ((xn,cG e X.env)::cC pos (ao es X.env))) _ _ s;refine Calls.spliced_cons (thn (ha pins s Y H _ I h) λu s1 ⟨x,H1,I1,r1,q1⟩=>?_);exact thn (hr pos pins s1 Y H1 _ I1 q1) λus s2 ⟨xs,H2,I2,r2,q2⟩=>⟨x::xs,H2,I2,.cons r1 r2,q2⟩
def c0N(t:TA):TE:=λY H Q=>t Y H λxs H1=>xs.length<=aV/\∀p,H1 p=p4->Q (.ref p) (upd H1 p (.tup xs))
def c0O(t:TA):TE:=λY H Q=>t Y H λxs H1=>xs.length<=aV/\∀p,H1 p=p4->Q (.ref p) (upd H1 p (.lst xs))
def b1s{x1}(h:PA X es t):PE X (.Tuple es x1 pos) (c0N t):=by
  intro pins s Y H Q I hq;refine wpAny_Tuple_spliced (thn (h pos pins s Y H _ I hq) λus s1 ⟨xs,H1,I1,r,z,q⟩=>⟨by rw[<-r.length];exact z,?_⟩);have hf:H1 s1.heap.objs.size=p4:=I1.hok.fresh (ay _);refine⟨.ref s1.heap.objs.size,upd H1 s1.heap.objs.size (.tup xs),I1.laid (t':=s1.toks) (λb u e=>af _ e) (ay _) ?_,rfl,q _ hf⟩;exact⟨z,us,r,⟨_,aL _ rfl,rfl,_,rfl⟩⟩
def b6X(h:PA X es t):PE X (.List es pos) (c0O t):=by
  intro pins s Y H Q I hq;refine wpAny_List_spliced (thn (h pos pins s Y H _ I hq) λus s1 ⟨xs,H1,I1,r,z,q⟩=>⟨by rw[<-r.length];exact z,?_⟩);have hf:H1 s1.heap.objs.size=p4:=I1.hok.fresh (ay _);refine⟨.ref s1.heap.objs.size,upd H1 s1.heap.objs.size (.lst xs),I1.laid (t':=s1.toks) (λb u e=>af _ e) (ay _) ?_,rfl,q _ hf⟩;exact⟨z,us,0,r,aL _ rfl⟩
end
abbrev Sp:=List V->Hp->VK->XK->Prop
abbrev CXT:=List pZ->Hp->aq->XK->aj->aq->Prop
structure Env0 (P:bA) (w:bX) (K:ae) (mg:bI->Option aj) (base:cf) (A:bL) (outer:List pZ) (s:aq) (H:Hp):Prop where
  frames:A.frames=cz outer
  mod:Mod K mg base
  bs:∀b o,base.get? b=cz o->s.heap.get? b=cz o/\H b=p4
  bsz:base.objs.size<=s.heap.objs.size
  funs:s.heap.FunFrames base outer
  frf:∀b∈frs outer,H b=p4
  hok:HOk P w H s.heap
  bare:p_ s.gens
  tabs:TabsIn K H
def CE(outer:List pZ)(P:bA)(w:bX)(H:Hp)(s:aq)(Q:VK)(u:aj)(s':aq):Prop:=
  ∃v H',s'.os=s.os/\p_ s'.gens/\Un (frs outer) [] H H' s.heap s'.heap/\HOk P w H' s'.heap/\RelV v u/\Q v H'
def CR(CX:CXT)(outer:List pZ)(P:bA)(w:bX)(H:Hp)(s:aq)(Q:VK)(E:XK)(r:Result)(s':aq):Prop:=
  match r with
  |.ok (.ret u)=>CE outer P w H s Q u s'
  |.ok _=>False
  |.error e=>CX outer H s E e s'
structure FnOk (P:bA) (w:bX) (K:ae) (mg:bI->Option aj) (base:cf) (CX:CXT) (k:Nat) (f:au) (fd:dR) (ps:List bI) (sp:Sp):Prop where
  len:∀vs H Q E,sp vs H Q E->vs.length=ps.length
  run:∀(A:bL) (outer:List pZ) (s:aq) (H:Hp) (args:Args) (us:List aj) (vs:List V) (Q:VK) (E:XK),Room k A->Env0 P w K mg base A outer s H->o_ s fd args (ps.zip us)->Vals vs us->sp vs H Q E->
    iZ (aT P w) A (.call (.ref f) args) (CR CX outer P w H s Q E) s
theorem FnOk.mono{P:bA}{w:bX}{K:ae}{mg:bI->Option aj}{base:cf}{CX:CXT}{j k:Nat}{f:au}{fd:dR}{ps:List bI}{sp:Sp}(F:FnOk P w K mg base CX j f fd ps sp)(h:j<=k) :
    FnOk P w K mg base CX k f fd ps sp:=⟨F.len,λA outer s H args us vs Q E hr=>F.run A outer s H args us vs Q E (hr.mono h)⟩
section
variable {X:Cx}{pins:List (au×gE)}{Y:St}{H:Hp}{s s':aq}
def Inv.env0(I:Inv X pins Y H s):Env0 X.prog X.w X.K X.mg X.base X.A X.stack s H:=
  ⟨I.ok.frames,I.ok.mod,I.bs,cU I.ok.bsz I.sz,I.stack,I.stkFree,I.hok,I.bare,I.tabs⟩
def Inv.after(I:Inv X pins Y H s)(h:CE X.stack X.prog X.w H s Q u s'):EP X pins Y Q u s':=by
  obtain⟨v,H',os,bare,un,hok,r,q⟩:=h;obtain⟨hh,g,d,t,DM⟩:=s';obtain rfl:DM=s.os:=os;exact⟨v,H',I.call (h':=hh) (g':=g) (d':=d) (t':=t) (ch:=[]) un hok bare (λb z=>absurd z (by simp)),r,q⟩
end
def b5W(sp:Sp)(uh:List V)(E:XK)(t:TA):TE:=λY H Q=>t Y H λvs H1=>sp (vs++uh) H1 Q E
def Binds(K:ae)(fd:dR)(ps:List bI)(ds:List aj):Prop:=
  ∀(s:aq) (us:List aj),K.In s.heap->(us++ds).length=ps.length->o_ s fd ⟨us,[]⟩ (ps.zip (us++ds))
def Binds.all{K:ae}{fd:dR}{ps:List bI}(h:∀us:List aj,us.length=ps.length->rH fd ⟨us,[]⟩=pure (ps.zip us)):Binds K fd ps []:=λs us _ hl=>by
  rw[bM]at hl ⊢;exact .of_eq (h us hl)
def a7G(CX:CXT)(X:Cx)(E:XK):Prop:=∀(pins:List (au×gE)) (Y:St) (H:Hp) (s:aq) (e:aj) (s':aq),Inv X pins Y H s->CX X.stack H s E e s'->X.xe e s'
section
variable {X:Cx}{CX:CXT}{k:Nat}{f C:au}{fd:dR}{ps:List bI}{sp:Sp}{uh:List V}{ds:List aj}{E:XK}{x m:bI}{p pos apos:fQ}{e o:Expr}{es:List Expr}{ta:TE}{t:TA}
def b6Y(F:FnOk X.prog X.w X.K X.mg X.base CX k f fd ps sp)(hr:Room k X.A)(hb:Binds X.K fd ps ds)(hd:Vals uh ds)(hx:a7G CX X E)
    (I:Inv X pins Y H s) (r:Vals vs us) (h:sp (vs++uh) H Q E):aG (aT X.prog X.w) X.A (call (.ref f) us) (EP X pins Y Q) X.xe s:=by
  have r2:Vals (vs++uh) (us++ds):=r.append hd;have hl:(us++ds).length=ps.length:=by rw[<-r2.length];exact F.len _ _ _ _ h
  refine wpAny_call (jx (F.run X.A X.stack s H ⟨us,[]⟩ (us++ds) (vs++uh) Q E hr I.env0 (hb s us I.kIn hl) r2 h) λr s' hq=>?_);cases r with
  |error e=>exact hx pins Y H s e s' I hq
  |ok fl=>
    cases fl with
    |ret u=>exact I.after hq
    |next=>exact cP hq
    |brk=>exact cP hq
    |cont=>exact cP hq
def b4d(F:FnOk X.prog X.w X.K X.mg X.base CX k f fd ps sp)(hr:Room k X.A)(hg:Gl X x)(hm:X.mg x=cz (.ref f))(hk:gj X.K (.ref f)=rp)(hb:Binds X.K fd ps ds)(hd:Vals uh ds)(hx:a7G CX X E)
    (ha:PA X (e::es) t) (lX:(x==("__debug__":bI))=xn:=by decide) (he:ao (e::es) X.env=(xn,cG e X.env)::ao es X.env:=by rfl) (gh:(cC pos (ao es X.env)).any (·.1)=xn:=by rfl) :
    PE X (.Call (.Name x p) (e::es) [] pos) (b5W sp uh E t):=by
  intro pins s Y H Q I h;refine fV (a5f I hg hm ?_ lX);refine AX (h₀:=X.base) I.ok.mod.kin hk (thn (ha pos pins s Y H _ I h) λus s1 ⟨vs,H1,I1,r,q⟩=>⟨I1.kIn,?_⟩) he gh;exact b6Y F hr hb hd hx I1 r q
structure Mk (K:ae) (C f:au):Prop where
  makes:PySem.W.makesIn K C=rp
  init:kn K (.ref C) "__init__"=cz (cz (.ref f))
  fn:PySem.W.isFn K (.ref f)=rp
  kp:gj K (.ref C)=rp
end
section
variable {X:Cx}{CX:CXT}{k:Nat}{f C:au}{fd:dR}{ps ks:List bI}{sp:Sp}{E:XK}{x m:bI}{p pos apos wu:fQ}{e o:Expr}{es:List Expr}{Hu:List iE}{te ta:TE}{t tk:TA}{nm:Option bI}
structure KBinds (K:ae) (fd:dR) (ps ks:List bI) (g:List aj->List aj->List aj) (gV:List V->List V->List V):Prop where
  to:∀(s:aq) (us ws:List aj),K.In s.heap->(g us ws).length=ps.length->o_ s fd ⟨us,ks.zip ws⟩ (ps.zip (g us ws))
  rel:∀{vs:List V} {us:List aj} {zs:List V} {ws:List aj},Vals vs us->Vals zs ws->Vals (gV vs zs) (g us ws)
variable {g:List aj->List aj->List aj}{gV:List V->List V->List V}
end
structure FnScope (N P:List bI) (sc:gJ):Prop where
  kind:sc.kind=.function
  co:sc.isCoroutine=xn
  gen:sc.isGenerator=xn
  nd:N.Nodup
  pre:N.take P.length=P
  par:∀x∈P,sc.names.lookup x=cz .local\/sc.names.lookup x=cz .cell
  nofree:∀y∈sc.names,y.2≠.free
theorem a4j{kindOf:bI->Option jC}{x:bI}:∀{binds:List (bI×aj)} {m:bI->Option aj},(∀v,(x,v)∉binds)->CS kindOf binds m x=m x
  |[],_,_=>rfl
  | (n,v)::r,m,h=>by
    unfold CS;rw[a4j λw hw=>h w (aw _ hw)]
    split
    · have:x≠n:=by rintro rfl;exact h v av
      simp[this]
    · rfl
theorem a4k{kindOf:bI->Option jC}{x:bI}:∀{binds:List (bI×aj)} {m:bI->Option aj},(∀v,(x,v)∉binds)->CT kindOf binds m x=m x
  |[],_,_=>rfl
  | (n,v)::r,m,h=>by
    unfold CT;rw[a4k λw hw=>h w (aw _ hw)]
    split
    · rfl
    · have:x≠n:=by rintro rfl;exact h v av
      simp[this]
theorem a4l{kindOf:bI->Option jC}{x:bI}{v:aj}:∀{P:List bI} {vs:List aj} {i:Nat} {m:bI->Option aj},P.Nodup->P[i]?=cz x->vs[i]?=cz v->kindOf x=cz .local->
    CS kindOf (P.zip vs) m x=cz v
  |[],_,_,_,_,h,_,_=>by simp at h
  |_::_,[],_,_,_,_,h,_=>by simp at h
  |p::P,w::vs,0,m,nd,h1,h2,hk=>by
    simp at h1 h2;subst h1;subst h2
    show CS kindOf ((p,w)::P.zip vs) m p=_;unfold CS;rw[a4j λv hv=>(bB.mp nd).1 (ir hv).1,aC hk];simp
  |p::P,w::vs,i+1,m,nd,h1,h2,hk=>by
    show CS kindOf ((p,w)::P.zip vs) m x=_;unfold CS;exact a4l (i:=i) (bB.mp nd).2 (by simpa using h1) (by simpa using h2) hk
theorem a4m{kindOf:bI->Option jC}{x:bI}{v:aj}:∀{P:List bI} {vs:List aj} {i:Nat} {m:bI->Option aj},P.Nodup->P[i]?=cz x->vs[i]?=cz v->kindOf x≠cz .local->
    CT kindOf (P.zip vs) m x=cz v
  |[],_,_,_,_,h,_,_=>by simp at h
  |_::_,[],_,_,_,_,h,_=>by simp at h
  |p::P,w::vs,0,m,nd,h1,h2,hk=>by
    simp at h1 h2;subst h1;subst h2
    show CT kindOf ((p,w)::P.zip vs) m p=_;unfold CT;rw[a4k λv hv=>(bB.mp nd).1 (ir hv).1,aI hk];simp
  |p::P,w::vs,i+1,m,nd,h1,h2,hk=>by
    show CT kindOf ((p,w)::P.zip vs) m x=_;unfold CT;exact a4m (i:=i) (bB.mp nd).2 (by simpa using h1) (by simpa using h2) hk
def start(N:List bI)(vs:List V):St:=vs.map cz++aS (N.length-vs.length) p4
def a0w(CX:CXT)(P:bA)(w:bX)(K:ae)(mg:bI->Option aj)(base:cf)(N:List bI)(qual:bI)(scope:gJ)(f:au)(cd:aj)(A:bL)(outer:List pZ)(s:aq)(H:Hp)(E:XK):Cx where
  prog:=P
  w:=w
  K:=K
  mg:=mg
  base:=base
  A:=A.deeper (jM qual scope s.heap.objs.size f cd)
  N:=N
  s₀:=s
  H₀:=H
  env:=jM qual scope s.heap.objs.size f cd
  outer:=outer
  stack:=jM qual scope s.heap.objs.size f cd::outer
  ex:=[]
  calm:=rp
  fn:=λ_=>rp
  pn:=[]
  xe:=λe s'=>aG (aT P w) (A.deeper (jM qual scope s.heap.objs.size f cd)) (leaving (jM qual scope s.heap.objs.size f cd) e) (λ_ yX=>CX outer H s E e yX) (λe' yX=>CX outer H s E e' yX) s'
def a6j{sc:gJ}(h:sc.names.lookup x=cz .cell):∃c,(cellsFrom n sc.names []).lookup x=cz c:=by
  have q:=vt sc.names n [] (.inl h);exact ij.mp q
def a9K{CX:CXT}{P:bA}{w:bX}{K:ae}{mg:bI->Option aj}{base:cf}{N ps:List bI}{qual:bI}{scope:gJ}{f:au}{cd:aj}{A:bL}{outer:List pZ}{s s1:aq}{H:Hp}{E:XK}{us:List aj}{vs:List V}
    (S:FnScope N ps scope) (hd:A.handled=p4) (e0:Env0 P w K mg base A outer s H) (hl:vs.length=ps.length) (r:Vals vs us)
    (x:InCallC s s.heap.objs.size (CS (jM qual scope s.heap.objs.size f cd).kindOf (ps.zip us) λ_=>p4) (cellsFrom (s.heap.objs.size+1) scope.names []) (CT (jM qual scope s.heap.objs.size f cd).kindOf (ps.zip us) λ_=>p4) s1) :
    Inv (a0w CX P w K mg base N qual scope f cd A outer s H E) [] (start N vs) H s1:=by
  have gh:ps.length<=N.length:=by have:=d_ gA S.pre;rw[bT]at this;omega
  obtain⟨h1,tk,rfl,hk⟩:=x.done;have uA:∀b:au,b∉(a0w CX P w K mg base N qual scope f cd A outer s H E).ex:=λb z=>absurd (show b∈([]:List au) from z) (by simp)
  refine⟨⟨e0.mod,S.kind,rfl,rfl,ay _,λy z c h1 h2=>?_,λy hy=>?_,λy c _ h=>?_,λ_=>hd,bL.frames_deeper e0.frames,.inr ⟨rfl,rfl⟩,λb z=>absurd z (uA b),e0.bs,e0.bsz,λb _ _=>uA b,λb z=>absurd z (uA b),e0.funs,e0.frf,e0.tabs⟩,
    rfl,e0.bare,Un.kept hk,⟨_,x.toInCall.ns,λi y v h1 h2 h3=>?_⟩,λy c h=>⟨_,x.cell y c h⟩,e0.hok.fresh (ay _),λy c h=>?_,λp hp=>absurd (show p∈([]:List (au×gE)) from hp) (by simp),e0.hok.kept hk,?_⟩
  · exact name_of_addr x.apart (cu h1) (cu h2)
  · have hy:scope.names.lookup y=cz .cell\/scope.names.lookup y=cz .free:=hy
    rcases hy with hy|hy
    · exact a6j hy
    · exact absurd rfl (S.nofree _ (cu hy))
  · exact eB (x.above y c (cu h))
  · have hi:i<vs.length:=by
      unfold start at h2;by_cases hi:i<vs.length
      · exact hi
      · rw[cY (by simpa using hi)]at h2
        rw[uq]at h2
        split at h2<;>cases h2
    have ha:vs[i]?=cz v:=by
      unfold start at h2;rw[eJ (by simpa using hi),aZ]at h2;cases e:vs[i]? with
      |none=>rw[e]at h2;cases h2
      |some a=>rw[e]at h2;cases h2;rfl
    obtain⟨u,hu,rv⟩:=r.get ha;have hp:ps[i]?=cz y:=by
      rw[<-S.pre,sY (by omega)];exact h1
    have Bw:ps.Nodup:=by rw[<-S.pre];exact S.nd.sublist (List.take_sublist _ _)
    refine⟨u,rv,?_⟩;rcases S.par y (bz hp) with k|k
    · exact .inl ⟨k,a4l Bw hp hu k⟩
    · obtain⟨c,e⟩:=a6j (n:=s.heap.objs.size+1) k
      refine .inr ⟨.inl k,c,e,?_⟩;have q:=x.cell y c e;rw[a4m Bw hp hu (by show scope.names.lookup y≠_;rw[k];decide)]at q;exact q
  · exact e0.hok.fresh (eB (x.above y c (cu h)))
  · unfold start
    show _=N.length;rw[a_,ag,gF];omega
def b5X{CX:CXT}{P:bA}{w:bX}{K:ae}{mg:bI->Option aj}{base:cf}{k:Nat}{f:au}{name qual:bI}{params:mQ}{body:List iz}{scope:gJ}{dV kV doc pm gK ct oc:aj}{an od:Option au}
    {qm:Array (Option aj)} {N ps:List bI} {sp:Sp} (lk:K.lookup f=cz ⟨oc,od,.func (gC name qual params body scope dV kV doc pm an gK ct),qm⟩) (jg:mM K gK qual=rp) (S:FnScope N ps scope)
    (len:∀vs H Q E,sp vs H Q E->vs.length=ps.length)
    (rz:∀(A:bL) (outer:List pZ) (s:aq) (H:Hp) (vs:List V) (Q:VK) (E:XK),Room k (A.deeper (jM qual scope s.heap.objs.size f gK))->sp vs H Q E->
      ∃t,PSs (a0w CX P w K mg base N qual scope f gK A outer s H E) body t/\t {nx:=λ_ H'=>Q .non H',rt:=Q} (start N vs) H) :
    FnOk P w K mg base CX (k+1) f (gC name qual params body scope dV kV doc pm an gK ct) ps sp:=by
  refine⟨len,λA outer s H args us vs Q E hr e0 hb r qZ=>?_⟩;have hl:=len _ _ _ _ qZ;have KX:K.In s.heap:=e0.mod.kin.keeps λb o e=>(e0.bs b o e).1
  have lim:s.heap.NoLimit:=e0.mod.nolimit.keeps λb o e=>(e0.bs b o e).1
  have wY:∀y∈ps.zip us,scope.names.lookup y.1=cz .local\/(scope.names.lookup y.1=cz .cell/\((cellsFrom (s.heap.objs.size+1) scope.names []).lookup y.1).isSome=rp):=λ⟨n,v⟩ hy=>by
    rcases S.par n (ir hy).1 with q|q
    · exact .inl q
    · exact .inr ⟨q,vt _ _ _ (.inl q)⟩
  refine codeAny_call_function hr.depth (KX _ _ lk) rfl S.co S.gen rfl (PySem.W.codeRec_of KX jg) (hb _ _ _ _ ?_);refine wpAny_newFunctionEnv_cells S.kind wY λenv he s1 x=>?_
  subst he;refine⟨lim.keeps x.toInCall.keep,codeAny_func ?_⟩;obtain⟨t,ht,hq⟩:=rz A outer s H vs Q E (hr.deeper _) qZ;have I:Inv (a0w CX P w K mg base N qual scope f gK A outer s H E) [] (start N vs) H s1:=a9K S hr.hd e0 hl r x;refine de (ht [] s1 (start N vs) H _ I hq) (λfl s' hs=>?_) λe s' hs=>hs
  have fin:∀{Y':St} {H':Hp} {v:V} {u:aj},Inv (a0w CX P w K mg base N qual scope f gK A outer s H E) [] Y' H' s'->RelV v u->Q v H'->CE outer P w H s Q u s':=
    λ{Y' H' v u} J rv q=>⟨v,H',J.os,J.bare,J.base,J.hok,rv,q⟩
  cases fl with
  |ret u=>
    obtain⟨v,Y',H',J,rv,q⟩:=hs;exact fin J rv q
  |next=>
    obtain⟨Y',H',J,q⟩:=hs;exact fin (v:=V.non) (u:=bb) J rfl q
  |brk=>
    obtain⟨_,_,_,q⟩:=hs;exact cP q
  |cont=>
    obtain⟨_,_,_,q⟩:=hs;exact cP q
section
variable {X:Cx}{x:bI}{p pos:fQ}{e:Expr}{es:List Expr}{t:TA}{id T:String}{r:List V->Hp->VK->Prop}
def tCB(r:List V->Hp->VK->Prop)(t:TA):TE:=λY H Q=>t Y H λvs H1=>r vs H1 Q
def Q0(hc:CallR X (.builtin id) r)(hg:Gl X x)(hm:X.mg x=p4)(hv:gL x=cz (.builtin id))(ha:PA X (e::es) t)(hn:x≠"__name__":=by decide)(lX:(x==("__debug__":bI))=xn:=by decide)
    (he:ao (e::es) X.env=(xn,cG e X.env)::ao es X.env:=by rfl) (gh:(cC pos (ao es X.env)).any (·.1)=xn:=by rfl):PE X (.Call (.Name x p) (e::es) [] pos) (tCB r t):=by
  intro pins s Y H Q I h;refine fV (a0g I hg hm hv ?_ hn lX);exact PyProof.Rows.callWith_builtin1 (thn (ha pos pins s Y H _ I h) λus s1 ⟨vs,H1,I1,r1,q1⟩=>hc pins s1 Y H1 vs us Q I1 r1 q1) he gh
def C1(hc:CallR X (.type T) r)(hg:Gl X x)(hm:X.mg x=p4)(hv:gL x=cz (.type T))(ha:PA X (e::es) t)(hn:x≠"__name__":=by decide)(lX:(x==("__debug__":bI))=xn:=by decide)
    (he:ao (e::es) X.env=(xn,cG e X.env)::ao es X.env:=by rfl) (gh:(cC pos (ao es X.env)).any (·.1)=xn:=by rfl):PE X (.Call (.Name x p) (e::es) [] pos) (tCB r t):=by
  intro pins s Y H Q I h;refine fV (a0g I hg hm hv ?_ hn lX);exact fC (thn (ha pos pins s Y H _ I h) λus s1 ⟨vs,H1,I1,r1,q1⟩=>hc pins s1 Y H1 vs us Q I1 r1 q1) he gh
end
end L2
namespace HT
open PySem PyProof.Rows
section
variable {prog:bA}{w:bX}{A:bL}{E:aj->aq->Prop}{s:aq}
def b4e{vs ws:List aj}(ht:IsTup s.heap t vs.toArray)(hb:IsTup s.heap b ws.toArray)(hv:vs≠[])
    (h1:ws=[]->Q (.ref t) s) (h2:ws≠[]->Q (.ref s.heap.objs.size) {s with heap:=s.heap.push {cls:=.type "tuple",data:=.seq (vs++ws).toArray}})
    (hsz:vs.length+ws.length<=aV):aG (aT prog w) A (fA .Add (.ref t) (.ref b)) Q E s:=by
  obtain⟨⟨cls,dd,data,sl⟩,ho,hc,n,hd⟩:=id ht;obtain⟨⟨xO,qP,data2,qJ⟩,uP,nT,n2,hd2⟩:=id hb;simp only at hc hd nT hd2;subst hc hd nT hd2;have e:vs.toArray++ws.toArray=(vs++ws).toArray:=by simp
  by_cases hw:ws=[]
  · exact GH ⟨_,ho,rfl⟩ ⟨_,uP,rfl⟩ sj yW lF lj (kT _ _)
      (tuple_addW1 t b vs.toArray ws.toArray n n2 dd qP sl qJ (by simpa using hv) (by simp[hw])) ⟨ho,uP,h1 hw⟩
  · refine GH ⟨_,ho,rfl⟩ ⟨_,uP,rfl⟩ sj yW lF lj (kT _ _)
      (tuple_addW2 t b vs.toArray ws.toArray n n2 dd qP sl qJ (by simpa using hv) (by simpa using hw) (by rw[bx,bx];exact hsz)) ⟨ho,uP,?_⟩
    rw[e];exact h2 hw
def sIx(n d:Nat):Option Int->Nat
  |none=>d
  |some v=>if v<0 then (v+(n:Int)).toNat else min v.toNat n
end
end HT
namespace L2
open PySem PySem.Spec PyProof.Rows
abbrev TO:=St->Hp->(Option Int->Hp->Prop)->Prop
def PO(X:Cx)(e:Option Expr)(t:TO):Prop:=
  ∀(pins:List (au×gE)) (s:aq) (Y:St) (H:Hp) (Q:Option Int->Hp->Prop),Inv X pins Y H s->t Y H Q->
    aG (aT X.prog X.w) X.A (evalPart e X.env) (λu s'=>∃o H',Inv X pins Y H' s'/\IsPart u o/\Q o H') X.xe s
def b4f:TO:=λ_ H Q=>Q p4 H
def b9f(t:TE):TO:=λY H Q=>t Y H λx H1=>∃i,x=.int i/\Q (cz i) H1
section
variable {X:Cx}{e:Expr}{te:TE}{lo hi:Option Expr}{tl th:TO}{pos p2:fQ}
def b4g:PO X p4 b4f:=by
  intro pins s Y H Q I h;rw[evalPart_none];exact ah ⟨p4,H,I,.none,h⟩
def b4h(h:PE X e te):PO X (cz e) (b9f te):=by
  intro pins s Y H Q I hw;rw[evalPart_some];refine thn (h pins s Y H _ I hw) λu s1 ⟨x,H1,I1,r1,q1⟩=>?_
  obtain⟨i,rfl,q⟩:=q1;obtain⟨t,rfl⟩:=r1;exact⟨cz i,H1,I1,.int i t,q⟩
def SlR(X:Cx)(r:V->Option Int->Option Int->Hp->VK->Prop):Prop:=
  ∀(pins:List (au×gE)) (s:aq) (Y:St) (H:Hp) (x:V) (v vl vu:aj) (lo hi:Option Int) (sl:au) (Q:VK),Inv X pins Y H s->RelV x v->s.heap.IsSliceOf sl vl vu .none->IsPart vl lo->IsPart vu hi->r x lo hi H Q->
    ∃T id,vZ (.type T) "__getitem__"=pure (cz (.builtin id))/\s.TypeIs v T/\aG (aT X.prog X.w) X.A (rF v (.ref sl)) (EP X pins Y Q) X.xe s
def tSl(r:V->Option Int->Option Int->Hp->VK->Prop)(te:TE)(tl th:TO):TE:=λY H Q=>te Y H λx H1=>tl Y H1 λl H2=>th Y H2 λu H3=>r x l u H3 Q
def b1t(hr:SlR X r)(he:PE X e te)(hl:PO X lo tl)(hu:PO X hi th):PE X (.Subscript e (.Slice lo hi p4 p2) pos) (tSl r te tl th):=by
  intro pins s Y H Q I h;refine Subscript_ (thn (he pins s Y H _ I h) λv s1 ⟨x,H1,I1,r1,q1⟩=>?_);refine wpAny_Slice (thn (hl pins s1 Y H1 _ I1 q1) λvl s2 ⟨l,H2,I2,pl,q2⟩=>thn (hu pins s2 Y H2 _ I2 q2) λvu s3 ⟨u,H3,I3,pu,q3⟩=>?_);rw[evalPart_none];refine ah ?_;have I4:Inv X pins Y H3 {s3 with heap:=s3.heap.push {cls:=.type "slice",data:=.fields #[vl,vu,.none]}}:=I3.kept (t':=s3.toks) λb ob q=>af _ q
  obtain⟨T,id,hT,ht,hg⟩:=hr pins {s3 with heap:=s3.heap.push {cls:=.type "slice",data:=.fields #[vl,vu,.none]}} Y H3 x v vl vu l u s3.heap.objs.size Q I4 r1 (cf.IsSliceOf.new ..) pl pu q3;show aG (aT X.prog X.w) X.A (subscriptTail e (.Slice lo hi p4 p2) v (.ref s3.heap.objs.size)) (EP X pins Y Q) X.xe {s3 with heap:=s3.heap.push {cls:=.type "slice",data:=.fields #[vl,vu,.none]}};exact tail_any (ops:=[.ref s3.heap.objs.size,v]) ht hT hg (by with_unfolding_all rfl)
def a7H(xs:List V)(lo hi:Option Int):List V:=(xs.drop (HT.sIx xs.length 0 lo)).take (HT.sIx xs.length xs.length hi-HT.sIx xs.length 0 lo)
def a6k(xs:List V)(lo hi:Option Int):(a7H xs lo hi).length<=xs.length:=by
  unfold a7H;rw[bT,hJ];omega
def b5Y(K:ae):R2:=λx y H Q=>∃a b xs ys,x=.ref a/\y=.ref b/\SqT K H a xs/\SqT K H b ys/\xs≠[]/\xs.length+ys.length<=aV/\
  (ys=[]->Q (.ref a) H)/\(ys≠[]->∀p,H p=p4->Q (.ref p) (upd H p (.tup (xs++ys))))
def Vals.nil_iff(r:Vals xs us):us=[]↔xs=[]:=by
  cases r with
  |nil=>simp
  |cons _ _=>simp
def b4i:OpR X (fA .Add) (b5Y X.K):=by
  intro pins s Y H x y v u Q I rx ry h;obtain⟨a,b,xs,ys,rfl,rfl,ha,hb,hx,hz,q1,q2⟩:=h;cases rx
  cases ry
  obtain⟨cQ,r1,p1,_⟩:=I.tuple ha;obtain⟨sk,r2,p2,_⟩:=I.tuple hb;refine HT.b4e p1 p2 (λz=>hx (r1.nil_iff.mp z)) (λz=>⟨.ref a,H,I,rfl,q1 (r2.nil_iff.mp z)⟩) (λz=>?_) (by rw[<-r1.length,<-r2.length];exact hz);refine⟨.ref s.heap.objs.size,_,I.laid (t':=s.toks) (o:=.tup (xs++ys)) (λb ob q=>af _ q) (ay _) ?_,rfl,q2 (λw=>z (r2.nil_iff.mpr w)) _ (I.hok.fresh (ay _))⟩;exact⟨by rw[a_];exact hz,_,r1.append r2,IsTup.new _ _⟩
end
def ixN(n:Nat)(i:Int):Option Nat:=if 0<=i then (if i<n then cz i.toNat else p4) else if -(n:Int)<=i then cz (i+n).toNat else p4
def atI{α:Type}(xs:List α)(i:Int):Option α:=(ixN xs.length i).bind λj=>xs[j]?
def b4j(h:ixN n i=cz j):seqIndex? i n=cz j/\j<n/\-(n:Int)<=i/\i<n:=by
  unfold ixN at h;by_cases h0:0<=i
  · rw[aC h0]at h
    by_cases h1:i<n
    · rw[aC h1]at h
      have e:i.toNat=j:=aK h;exact⟨by rw[seqIndex_of h0 h1,e],by omega,by omega,h1⟩
    · rw[aI h1]at h;cases h
  · rw[aI h0]at h
    by_cases h1:-(n:Int)<=i
    · rw[aC h1]at h
      have e:(i+n).toNat=j:=aK h;exact⟨by rw[seqIndex_neg (by omega) h1,e],by omega,h1,by omega⟩
    · rw[aI h1]at h;cases h
def a8N{α:Type}{xs:List α}{i:Int}{v:α}(h:atI xs i=cz v):∃j,seqIndex? i xs.length=cz j/\xs[j]?=cz v/\j<xs.length/\-(xs.length:Int)<=i/\i<xs.length:=by
  unfold atI at h;cases e:ixN xs.length i with
  |none=>rw[e]at h;cases h
  |some j=>
    rw[e]at h;obtain⟨h1,h2,h3,h4⟩:=b4j e;exact⟨j,h1,h,h2,h3,h4⟩
def a2t(b:Expr):Prop:=∀o i,tG b xn o i=operate [o,i] (rF o i)
def IxR(X:Cx)(r:R2):Prop:=
  ∀(value slice:Expr) (pins:List (au×gE)) (s:aq) (Y:St) (H:Hp) (x y:V) (v u:aj) (Q:VK),Inv X pins Y H s->RelV x v->RelV y u->r x y H Q->
    tG slice xn v u=operate [v,u] (rF v u)->aG (aT X.prog X.w) X.A (subscriptTail value slice v u) (EP X pins Y Q) X.xe s
def MtR(X:Cx)(id:String)(r:V->List V->Hp->VK->Prop):Prop:=
  ∀(pins:List (au×gE)) (s:aq) (Y:St) (H:Hp) (x:V) (xs:List V) (v:aj) (us:List aj) (Q:VK),Inv X pins Y H s->RelV x v->Vals xs us->r x xs H Q->
    aG (aT X.prog X.w) X.A (call (.builtin id) (v::us)) (EP X pins Y Q) X.xe s
section
variable {X:Cx}{a b:Expr}{ta tb:TE}{pos:fQ}
def IxR.or(h:IxR X r)(h':IxR X r'):IxR X (λx y H Q=>r x y H Q\/r' x y H Q):=by
  intro value slice pins s Y H x y v u Q I rx ry q hs;rcases q with q|q
  · exact h value slice pins s Y H x y v u Q I rx ry q hs
  · exact h' value slice pins s Y H x y v u Q I rx ry q hs
def b1u(hr:IxR X r)(ha:PE X a ta)(hb:PE X b tb)(hs:a2t b):PE X (.Subscript a b pos) (tOp r ta tb):=by
  intro pins s Y H Q I h;exact Subscript_ (b6N ha hb I h λv u s2 x y H2 I2 rx ry q=>hr a b pins s2 Y H2 x y v u Q I2 rx ry q (hs _ _))
def b9g(K:ae):R2:=λx y H Q=>∃p xs i v,x=.ref p/\y=.int i/\SqL K H p xs/\atI xs i=cz v/\Q v H
def b9h(K:ae):R2:=λx y H Q=>∃p xs i v,x=.ref p/\y=.int i/\SqT K H p xs/\atI xs i=cz v/\Q v H
def b4k:IxR X (b9g X.K):=by
  intro value slice pins s Y H x y v u Q I rx ry h hs;obtain⟨p,xs,i,z,rfl,rfl,hq,he,q⟩:=h;cases rx
  obtain⟨t,rfl⟩:=ry;obtain⟨cQ,r,pl,hz⟩:=I.list hq;obtain⟨j,h1,h2,h3,h4,h5⟩:=a8N he;obtain⟨w,ew,yY⟩:=r.get h2;have hl:=r.length;have hn:=a2L;have fin:EP X pins Y Q w s:=⟨z,H,I,yY,q⟩;by_cases h0:0<=i
  · have hj:i.toNat=j:=by
      rw[seqIndex_of h0 h5]at h1;exact aK h1
    exact item_listR pl.isList h0 (by omega) (by rw[hj];simpa using ew) fin hs
  · have hj:(i+(cQ.toArray.size:Int)).toNat=j:=by
      rw[seqIndex_neg (by omega) h4]at h1;rw[bx,<-hl];exact aK h1
    exact subscriptTail_builtinR (x:=w) pl.isList.typeIs slot_list_getitem.lookup
      (wpAny_getItem_list_neg (Q:=λr s'=>r=w/\EP X pins Y Q r s') pl.isList (by omega) (by rw[bx]<;>omega) (by omega) (by rw[hj];simpa using ew) ⟨rfl,fin⟩) hs
def b6Z:IxR X (b9h X.K):=by
  intro value slice pins s Y H x y v u Q I rx ry h hs;obtain⟨p,xs,i,z,rfl,rfl,hq,he,q⟩:=h;cases rx
  obtain⟨t,rfl⟩:=ry;obtain⟨cQ,r,pl,hz⟩:=I.tuple hq;obtain⟨j,h1,h2,h3,h4,h5⟩:=a8N he;obtain⟨w,ew,yY⟩:=r.get h2;have hl:=r.length;have hn:=a2L;have fin:EP X pins Y Q w s:=⟨z,H,I,yY,q⟩;exact subscriptTail_builtinR (x:=w) pl.typeIs slot_tuple_getitem.lookup
    (getItem_tuple (j:=j) (Q:=λr s'=>r=w/\EP X pins Y Q r s') pl (by omega) (by omega) (by rw[bx,<-hl];exact h1) (by simpa using ew) ⟨rfl,fin⟩) hs
def a5k(lo hi:Option Int)(n:Nat):(ke lo hi p4 n).1=((HT.sIx n 0 lo:Nat):Int)/\(ke lo hi p4 n).2.1=((HT.sIx n n hi:Nat):Int)/\(ke lo hi p4 n).2.2=1:=by
  refine⟨?_,?_,rfl⟩
  · cases lo with
    |none=>simp[ke,HT.sIx]
    |some i=>
      simp only[ke,HT.sIx,GR,show (1:Int)>0 by decide,jt];by_cases h:i<0
      · simp only[h,jt]<;>omega
      · simp only[h,dw]<;>omega
  · cases hi with
    |none=>simp[ke,HT.sIx]
    |some i=>
      simp only[ke,HT.sIx,GR,show (1:Int)>0 by decide,jt];by_cases h:i<0
      · simp only[h,jt]<;>omega
      · simp only[h,dw]<;>omega
def a3V(cQ:List aj)(lo hi:Option Int):slicePick cQ.toArray lo hi p4=((cQ.drop (HT.sIx cQ.length 0 lo)).take (HT.sIx cQ.length cQ.length hi-HT.sIx cQ.length 0 lo)).toArray:=by
  obtain⟨h1,h2,h3⟩:=a5k lo hi cQ.toArray.size;unfold slicePick;rw[h1,h2,h3];simp only[sliceRange_one,pick_run,bx]<;>rfl
def c0P(K:ae):V->Option Int->Option Int->Hp->VK->Prop:=λx lo hi H Q=>∃a xs,x=.ref a/\SqL K H a xs/\∀p,H p=p4->Q (.ref p) (upd H p (.lst (a7H xs lo hi)))
def b4l:SlR X (c0P X.K):=by
  intro pins s Y H x v vl vu lo hi sl Q I rx hs pl pu h;obtain⟨a,xs,rfl,hx,q⟩:=h;cases rx
  obtain⟨cQ,r,ht,hz⟩:=I.list hx;have hlen:=r.length;refine⟨"list",_,slot_list_getitem.lookup,ht.isList.typeIs,?_⟩;refine wpAny_getItem_list_slice ht.isList hs pl pu .none (by simp) ?_ (by rw[bx]<;>omega);rw[a3V,<-hlen];refine⟨.ref s.heap.objs.size,_,I.laid (t':=s.toks) (o:=.lst (a7H xs lo hi)) (λb ob q=>af _ q) (ay _) ?_,rfl,q _ (I.hok.fresh (ay _))⟩;exact⟨cU (a6k xs lo hi) hz,_,0,(r.drop (HT.sIx xs.length 0 lo)).take (HT.sIx xs.length xs.length hi-HT.sIx xs.length 0 lo),aL _ rfl⟩
def a5l:CallR X (.builtin "len") (λxs H Q=>∃p ys,xs=[.ref p]/\(SqL X.K H p ys\/SqT X.K H p ys)/\Q (.int ys.length) H):=by
  intro pins s Y H xs us Q I r h;obtain⟨p,ys,rfl,hq,q⟩:=h;obtain⟨u,rfl,rx⟩:=vals1 r;cases rx
  have hn:=a2L;rcases hq with hq|hq
  · obtain⟨cQ,r',pl,hz⟩:=I.list hq
    have hlen:=r'.length;exact Calls.call_len_list pl.isList (by simp only[bx]<;>omega) ⟨.int ys.length,H,I.tok _,⟨s.toks+1,by rw[bx,hlen]⟩,q⟩
  · obtain⟨cQ,r',pl,hz⟩:=I.tuple hq
    have hlen:=r'.length;exact len_tuple pl (by simp only[bx]<;>omega) ⟨.int ys.length,H,I.tok _,⟨s.toks+1,by rw[bx,hlen]⟩,q⟩
def a5m:CallR X (.builtin "len") (λxs H Q=>∃z,xs=[.str z]/\z.length<=aV/\Q (.int z.length) H):=by
  intro pins s Y H xs us Q I r h;obtain⟨z,rfl,hz,q⟩:=h;obtain⟨u,rfl,t,rfl⟩:=vals1 r;have hn:=a2L;exact len_str (by omega) ⟨.int z.length,H,I.tok _,⟨_,rfl⟩,q⟩
def CallR.or(h:CallR X f r)(h':CallR X f r'):CallR X f (λxs H Q=>r xs H Q\/r' xs H Q):=by
  intro pins s Y H xs us Q I rs q;rcases q with q|q
  · exact h pins s Y H xs us Q I rs q
  · exact h' pins s Y H xs us Q I rs q
def a0x:CallR X (.type "list") (λxs H Q=>∃p ys,xs=[.ref p]/\(SqL X.K H p ys\/SqT X.K H p ys)/\∀l,H l=p4->Q (.ref l) (upd H l (.lst ys))):=by
  intro pins s Y H xs us Q I r h;obtain⟨p,ys,rfl,hq,q⟩:=h;obtain⟨u,rfl,rx⟩:=vals1 r;cases rx
  have fin:∀(cQ:List aj),Vals ys cQ->ys.length<=aV->∀(h':cf) (c':Nat),(∀b o',s.heap.get? b=cz o'->h'.get? b=cz o')->
      h'.get? s.heap.objs.size=cz {cls:=.type "list",dict:=p4,data:=.seq cQ.toArray c',slots:=#[]}->EP X pins Y Q (.ref s.heap.objs.size) {s with heap:=h'}:=λcQ r' hz h' c' kp e=>
    ⟨.ref s.heap.objs.size,_,I.laid (t':=s.toks) kp (ay _) (show ObjOk X.prog X.w _ h' _ (.lst ys) from⟨hz,cQ,c',r',e⟩),rfl,q _ (I.hok.fresh (ay _))⟩
  rcases hq with hq|hq
  · obtain⟨cQ,r',pl,hz⟩:=I.list hq
    have hlen:=r'.length;obtain⟨o,ho,hc,n,hd⟩:=pl.isList;exact call_list_seq p (.inl rfl) ho hc hd (λh' c' kp e=>fin cQ r' hz h' c' kp e) (by simp only[bx]<;>omega)
  · obtain⟨cQ,r',pl,hz⟩:=I.tuple hq
    have hlen:=r'.length;obtain⟨o,ho,hc,n,hd⟩:=pl;exact call_list_seq p (.inr rfl) ho hc hd (λh' c' kp e=>fin cQ r' hz h' c' kp e) (by simp only[bx]<;>omega)
def a3W:CallR X (.type "tuple") (λxs H Q=>∃p ys,xs=[.ref p]/\((SqL X.K H p ys/\∀l,H l=p4->Q (.ref l) (upd H l (.tup ys)))\/(SqT X.K H p ys/\Q (.ref p) H))):=by
  intro pins s Y H xs us Q I r h;obtain⟨p,ys,rfl,h⟩:=h;obtain⟨u,rfl,rx⟩:=vals1 r;cases rx
  rcases h with⟨hq,q⟩|⟨hq,q⟩
  · obtain⟨cQ,r',pl,hz⟩:=I.list hq
    have hlen:=r'.length;refine call_tuple_list pl.isList (λh' kp=>?_) (by simp only[bx]<;>omega);have I1:Inv X pins Y H {s with heap:=h'}:=I.kept (t':=s.toks) kp;have I2:Inv X pins Y (upd H h'.objs.size (.tup ys)) {s with heap:=h'.push {cls:=.type "tuple",data:=.seq cQ.toArray}}:=
      I1.laid (t':=s.toks) (λb o e=>af _ e) (ay _) (show ObjOk X.prog X.w _ _ _ (.tup ys) from⟨hz,cQ,r',IsTup.new _ _⟩)
    exact⟨.ref h'.objs.size,_,I2,rfl,q _ (I1.hok.fresh (ay _))⟩
  · obtain⟨cQ,r',pl,hz⟩:=I.tuple hq
    exact call_tuple_same pl ⟨.ref p,H,I,rfl,q⟩
def tyV(K:ae)(T:String)(x:V)(H:Hp):Prop:=match x with
  |.str _=>T="str"
  |.int _=>T="int"
  |.ref p=>(T="list"/\∃xs,SqL K H p xs)\/(T="tuple"/\∃o,K.lookup p=cz o/\o.cls=.type "tuple"/\o.dict=p4)\/
      (T="dict"/\((∃kvs,H p=cz (.dK kvs))\/∃kvs,H p=cz (.dT kvs)))\/(T="set"/\∃S n,H p=cz (.set S n))
  |_=>False
def b1v(I:Inv X pins Y H s)(r:RelV x v)(ty:tyV X.K T x H) :
    s.TypeIs v T/\∀a,v=.ref a->∃ob,s.heap.get? a=cz ob/\ob.dict=p4:=by
  cases x with
  |str z=>
    obtain⟨t,rfl⟩:=r;cases (show T="str" from ty)
    exact⟨typeIs_str s z t,λ_ e=>nomatch e⟩
  |int i=>
    obtain⟨t,rfl⟩:=r;cases (show T="int" from ty)
    exact⟨typeIs_int s i t,λ_ e=>nomatch e⟩
  |ref p=>
    cases r
    rcases ty with⟨rfl,xs,hq⟩|⟨rfl,o,hk,hc,hd⟩|⟨rfl,hk⟩|⟨rfl,S,n,hk⟩
    · obtain⟨cQ,_,pl,_⟩:=I.list hq
      refine⟨pl.isList.typeIs,λa e=>?_⟩;cases e
      obtain⟨o,n,e,c,hd,_⟩:=pl;exact⟨o,e,hd⟩
    · refine⟨⟨o,I.kIn p o hk,hc⟩,λa e=>?_⟩
      cases e
      exact⟨o,I.kIn _ o hk,hd⟩
    · have z:∃o,s.heap.get? p=cz o/\o.ExactDict:=by
        rcases hk with⟨kvs,hk⟩|⟨kvs,hk⟩
        · obtain⟨_,_,_,_,o,_,_,e,ex,_⟩:=I.hok p _ hk
          exact⟨o,e,ex⟩
        · obtain⟨_,_,_,_,o,_,_,e,ex,_⟩:=I.hok p _ hk
          exact⟨o,e,ex⟩
      obtain⟨o,e,ex⟩:=z;refine⟨⟨o,e,ex.1⟩,λa e2=>?_⟩;cases e2
      exact⟨o,e,ex.2.1⟩
    · obtain⟨o,_,_,_,e,ex,_⟩:=I.hok p _ hk
      refine⟨⟨o,e,ex.1⟩,λa e2=>?_⟩;cases e2
      exact⟨o,e,ex.2.1⟩
  |_=>exact cP ty
def c0Q(K:ae)(T:String)(r:V->List V->Hp->VK->Prop)(to:TE):TE:=λY H Q=>to Y H λx H1=>tyV K T x H1/\r x [] H1 Q
def tBM(K:ae)(T:String)(r:V->List V->Hp->VK->Prop)(to:TE)(t:TA):TE:=λY H Q=>to Y H λx H1=>tyV K T x H1/\t Y H1 λxs H2=>r x xs H2 Q
variable {o e:Expr}{es:List Expr}{to:TE}{t:TA}{name:bI}{apos cM:fQ}{T id:String}{r:V->List V->Hp->VK->Prop}
def b7a(pa:PlainAttrs T)(slot:Slot T name id)(wH:typeOf (.builtin id)=pure (.type "method_descriptor"))(hm:MtR X id r)(ho:PE X o to)
    (fx:dC o name X.env (cG o X.env)=cG o X.env:=by rfl) (fw:(apos.endLine==cM.line)=rp:=by rfl):PE X (.Call (.Attribute o name apos) [] [] cM) (c0Q X.K T r to):=by
  intro pins s Y H Q I h;refine je fx fw (thn (ho pins s Y H _ I h) λv s1 ⟨x,H1,I1,r1,ty,q1⟩=>?_);obtain⟨h1,h2⟩:=b1v I1 r1 ty;exact⟨T,id,pa,slot,wH,h1,h2,fR rfl (jO (hm pins s1 Y H1 x [] v [] Q I1 r1 .nil q1))⟩
def b1w(pa:PlainAttrs T)(slot:Slot T name id)(wH:typeOf (.builtin id)=pure (.type "method_descriptor"))(hm:MtR X id r)(ho:PE X o to)(ha:PA X (e::es) t)
    (fx:dC o name X.env (cG o X.env)=cG o X.env:=by rfl)
    (lC:((cC cM (ao (e::es) X.env)).all (λx=>!x.1)&&(oI cM (kg [] X.env)).all (λx=>x.1.isSome)
      && decide ((e::es).length+([]:List iE).length+(if ([]:List iE).isEmpty then 0 else 1)<30))=rp:=by rfl)
    (fw:(apos.endLine==cM.line)=rp:=by rfl) (hs:ao (e::es) X.env=(xn,cG e X.env)::ao es X.env:=by rfl) (hX:(cC cM (ao es X.env)).any (·.1)=xn:=by rfl) :
    PE X (.Call (.Attribute o name apos) (e::es) [] cM) (tBM X.K T r to t):=by
  intro pins s Y H Q I h;refine Dp fx lC fw rfl (thn (ho pins s Y H _ I h) λv s1 ⟨x,H1,I1,r1,ty,q1⟩=>?_);obtain⟨h1,h2⟩:=b1v I1 r1 ty;refine⟨T,id,pa,slot,wH,h1,h2,?_⟩;have hA:=ha cM pins s1 Y H1 _ I1 q1;rw[hs]at hA ⊢;refine fR (by show (xn||(cC cM (ao es X.env)).any (·.1))=xn;rw[hX]<;>rfl) (oX ?_);exact thn hA λus s2 ⟨vs,H2,I2,r2,q2⟩=>hm pins s2 Y H2 x vs v us Q I2 r1 r2 q2
end
def MtM(X:Cx)(id:String)(r:V->List V->Hp->VK->Prop):Prop:=
  ∀(pins:List (au×gE)) (s:aq) (Y:St) (H:Hp) (x:V) (xs:List V) (v:aj) (us:List aj) (Q:VK),Inv X pins Y H s->RelV x v->Vals xs us->r x xs H Q->
    aG (aT X.prog X.w) X.A (call (.builtin id) (v::us)) (EP X pins Y Q) X.xe s
def Vals.one:∀{x:V} {us:List aj},Vals [x] us->∃u,us=[u]/\RelV x u
  |_,_,.cons r .nil=>⟨_,rfl,r⟩
def Vals.zero:∀{us:List aj},Vals [] us->us=[]
  |_,.nil=>rfl
section
variable {X:Cx}{pins:List (au×gE)}{Y:St}{H:Hp}{s:aq}{l b:au}{xs ys zs:List V}
def Inv.lset{cQ its':List aj}(I:Inv X pins Y H s)(hH:H l=cz (.lst xs))
    (e:s.heap.get? l=cz {cls:=.type "list",data:=.seq cQ.toArray n}) (hf:f cQ.toArray=its'.toArray) (hv:Vals ys its') (hz:ys.length<=aV) :
    Inv X pins Y (upd H l (.lst ys)) {s with heap:=s.heap.update l (fY f),toks:=t'}:=by
  have q:=PySem.IsL.update e f;rw[hf]at q;refine I.write (x:=l) (e:=l) (by rw[hH];exact trivial) (.inl rfl) (λb' u hb hu=>(gM s.heap (fY f) (dN hb)).trans hu) ⟨_,q⟩ ?_;exact⟨hz,its',_,hv,q⟩
def Inv.lnew(I:Inv X pins Y H s)(hv:Vals ys cQ)(hz:ys.length<=aV) :
    Inv X pins Y (upd H s.heap.objs.size (.lst ys)) {s with heap:=s.heap.push {cls:=.type "list",data:=.seq cQ.toArray},toks:=t'}:=
  I.laid (λ_ _ q=>af _ q) (ay _) ⟨hz,cQ,0,hv,aL _ rfl⟩
theorem Inv.fresh(I:Inv X pins Y H s):H s.heap.objs.size=p4:=I.hok.fresh (ay _)
def Inv.lstM(I:Inv X pins Y H s)(hH:H l=cz (.lst xs)):xs.length<=aV/\∃(cQ:List aj) (n:Nat),Vals xs cQ/\xs.length=cQ.length/\s.heap.get? l=cz {cls:=.type "list",data:=.seq cQ.toArray n}:=by
  obtain⟨z,cQ,n,r,e⟩:=I.hok l _ hH;exact⟨z,cQ,n,r,r.length,e⟩
end
section
variable {X:Cx}
def b4m:V->List V->Hp->VK->Prop:=λx vs H Q=>∃l xs y,x=.ref l/\vs=[y]/\H l=cz (.lst xs)/\xs.length<aV/\Q .non (upd H l (.lst (xs++[y])))
def X2:MtM X "list.append" b4m:=by
  intro pins s Y H x vs v us Q I rx rv h;obtain⟨l,xs,y,rfl,rfl,hH,hz,q⟩:=h;cases rx
  obtain⟨u,rfl,ru⟩:=rv.one;obtain⟨z,cQ,n,r,hl,e⟩:=I.lstM hH;refine call_meets F.slot_list_append ⟨_,e,rfl⟩ F.entry_list_append (F.args_list_append_2 _ _) (PySem.list_append l cQ.toArray n u (by rw[bx];omega)) ⟨e,?_⟩;refine⟨.non,_,I.lset (its':=cQ++[u]) hH e (by simp) (r.append (.cons ru .nil)) ?_,rfl,q⟩;rw[a_,List.length_singleton];omega
end
end L2
namespace Att
open PySem PySem.W PySem.Calls PyProof.Rows
def a2o:∀(ns:List Int) (vs:List aj),WellAll P h vs (ns.map WData.int)->IntsAre vs ns:=by
  intro ns
  induction ns with
  |nil=>
    intro vs w;rw[cV]at w;cases w
    exact .nil
  |cons n ns ih=>
    intro vs w;rw[aA]at w;cases w with
    |cons a b=>
      cases a
      exact .cons _ _ (ih _ b)
def a9L{l:OpenLaw}(hn:l.most=cz n) 
    (mE:l.row.toRowW.claim.pre args=rp) (zx:WellAll P h vals args) :
    ∃a vs ns,vals=[be a]/\args=[WData.list (ns.map WData.int)]/\h.get? a=cz {cls:=.type "list",data:=.seq vs.toArray}/\IntsAre vs ns/\ns.length<=n:=by
  have Ew:WShape.hasAll [] args [.list .int]=rp:=(pre_splitW mE).1;have hc:l.pre.holds [] {args:=args}=rp:=(pre_splitW mE).2;obtain⟨d,r,rfl,h1,h2⟩:=hasAllW_cons Ew;obtain rfl:=hasAllW_nil h2;obtain⟨xs,rfl,h3⟩:=hasW_list h1;obtain⟨ns,rfl⟩:=items_int h3;have hlen:ns.length<=n:=by
    unfold OpenLaw.pre at hc;have h4:(WTm.not (.lt (.lit (.int (n:Int))) (.len (.arg 0)))).holds [] {args:=[.list (ns.map .int)]}=rp:=by
      have h4:=(holds_andW hc).1;rw[hn]at h4;exact h4
    have h5:=condW_of h4 (w_not (w_lt w_lit (w_len_list (w_arg rfl))));rw[ag]at h5;refine Nat.le_of_not_lt λq=>?_
    have q':(n:Int)<((ns.length:Nat):Int):=by omega
    first
      | (rw[aE q']at h5;exact absurd h5 (by decide))
      | (simp at h5;omega)
  cases zx with
  |cons w1 w2=>
    cases w2
    cases w1 with
    |list ho jV=>exact⟨_,_,ns,rfl,rfl,ho,a2o ns _ jV,hlen⟩
def a9M(l:OpenLaw)(args:List WData):l.row.toRowW.claim.post args (.bool rp) args=rp:=
  postW_of (r:=l.row.toRowW) (X:=(rp==rp))
    (show WShape.has [] (.bool rp) .bool=rp by first|rfl|decide|simp[WShape.has,WShape.arms,WShape.armsAll])
    (show (WTm.eq .res (.lit (.bool rp))).value [] {args:=args,res:=cz (.bool rp),after:=args}=cz (.bool (rp==rp)) from w_eq_bool (w_res rfl) w_lit) rfl
def attach_call{l:OpenLaw}{d:DefRec}
    (hn:l.most=cz n) (xm:d.params.defaults=[])
    (call:∀(w:bX) (s₀ s₁:aq) (mg mb:bI->Option aj) (fa:au) (o:gE) (pm cd doc:aj) (a:au) (vs:List aj) (ns:List Int),
      Ground q loose [] XP w s₀ mg mb s₁.heap->YP w s₁.heap->
      s₁.heap.get? fa=cz o->o.data=.func (docDef d.name d.params d.body d.scope pm cd doc)->s₁.heap.CodeRec cd d.name->mg d.name=cz (.ref fa)->
      s₁.heap.get? a=cz {cls:=.type "list",data:=.seq vs.toArray}->IntsAre vs ns->ns.length<=n->s₁.gens=#[]->
      iZ (aT l.prog w) oZ (.call (.ref fa) ⟨[.ref a],[]⟩) (λr s'=>r=.ok (.ret (.bool rp))/\OldK s₁.heap s'.heap/\s'.os=s₁.os/\p_ s'.gens) s₁) :
    WalkO q loose XP YP l.row.toRowW d [] (λf vs=>AV f vs):=by
  intro w s₀ s₁ mg mb G DA fa o pm cd doc dV kV ho hd jg hD wW hg args vals as mE EV Hz zx hlo;obtain rfl:dV=.none:=Dflts.none hD xm;obtain rfl:kV=.none:=Dflts.noKw hD;obtain⟨a,vs,ns,rfl,rfl,uO,hints,hlen⟩:=a9L hn mE zx;refine enter_call (jx (call w s₀ s₁ mg mb fa o pm cd doc a vs ns G DA ho (fd_plain hd) jg wW uO hints hlen hg) λr s' hq=>?_);obtain⟨rfl,h2,h3,h4⟩:=hq;exact⟨.inl ⟨.bool rp,.bool rp,[],rfl,λ_=>rfl,.bool rp,a9M l _,λ_=>⟨kL,λ_ hm=>(nomatch hm)⟩⟩,h2,h3,h4⟩
section
variable {prog:bA}{w:bX}{A:bL}{E:aj->aq->Prop}{s:aq}{K:Frag}
def ledger(h:cf)(L d:au):List (au×gE):=(aU h.objs.size).filterMap λa=>if a=L\/a=d then p4 else (h.get? a).map λo=>(a,o)
end
end Att
namespace L2
open PySem PySem.Spec PyProof.Rows
theorem vals_ints:∀{vs:List aj} {ns:List Int},IntsAre vs ns->Vals (ns.map V.int) vs
  |_,_,.nil=>.nil
  |_,_,.cons n t h=>.cons ⟨t,rfl⟩ (vals_ints h)
abbrev KOf{K:ae}{h:cf}(_:K.In h):ae:=K
end L2
namespace L2
open PySem PySem.Spec PyProof.Rows
def T4(s:iz):mQ:=match s with
  |.FunctionDef _ a _ _ _ _ _ _ _ _=>a
  |_=>{posonlyargs:=[],args:=[],vararg:=p4,kwonlyargs:=[],kw_defaults:=[],kwarg:=p4,defaults:=[]}
def v7(s:iz):List iz:=match s with
  |.FunctionDef _ _ b _ _ _ _ _ _ _=>b
  |_=>[]
def i6(s:iz):gJ:=match s with
  |.FunctionDef _ _ _ _ _ _ sc _ _ _=>sc
  |_=>{kind:=.function,names:=[],isGenerator:=xn,isCoroutine:=xn}
abbrev CX0:CXT:=λ_ _ _ _ _ _=>False
abbrev E0:XK:=λ_ _ _=>False
def b9i:a7G CX0 X E0:=λ_ _ _ _ _ _ _ h=>h.elim
structure Fun (K:ae) (x qual:bI) (st:iz) (f:au) (fd:dR):Prop where
  ex:∃(oc:aj) (od:Option au) (kV doc pm:aj) (an:Option au) (gK ct:aj) (qm:Array (Option aj)),
    fd=gC x qual (T4 st) (v7 st) (i6 st) .none kV doc pm an gK ct/\K.lookup f=cz ⟨oc,od,.func fd,qm⟩/\mM K gK qual=rp
  kp:gj K (.ref f)=rp
section
variable {P:bA}{w:bX}{K:ae}{mg:bI->Option aj}{base:cf}
def Fun.ok{x qual:bI}{st:iz}{f:au}{fd:dR}{N ps:List bI}{k:Nat}{sp:Sp}(F:Fun K x qual st f fd)(S:FnScope N ps (i6 st))(len:∀vs H Q E,sp vs H Q E->vs.length=ps.length)
    (rz:∀(gK:aj) (A:bL) (outer:List pZ) (s:aq) (H:Hp) (vs:List V) (Q:VK) (E:XK),Room k (A.deeper (jM qual (i6 st) s.heap.objs.size f gK))->sp vs H Q E->
      ∃t,PSs (a0w CX0 P w K mg base N qual (i6 st) f gK A outer s H E).nox (v7 st) t/\t {nx:=λ_ H'=>Q .non H',rt:=Q} (start N vs) H):FnOk P w K mg base CX0 (k+1) f fd ps sp:=by
  obtain⟨oc,od,kV,doc,pm,an,gK,ct,qm,rfl,lk,jg⟩:=F.ex;refine b5X lk jg S len λA outer s H vs Q E hr qZ=>?_
  obtain⟨t,h,q⟩:=rz gK A outer s H vs Q E hr qZ;exact⟨t,h.nox,q⟩
def Fun.binds{x qual:bI}{st:iz}{f:au}{fd:dR}{ps:List bI}(F:Fun K x qual st f fd)
    (h:∀(kV doc pm:aj) (an:Option au) (gK ct:aj) (us:List aj),us.length=ps.length->rH (gC x qual (T4 st) (v7 st) (i6 st) .none kV doc pm an gK ct) ⟨us,[]⟩=pure (ps.zip us)):Binds K fd ps []:=by
  obtain⟨oc,od,kV,doc,pm,an,gK,ct,qm,rfl,lk,jg⟩:=F.ex;exact .all (h kV doc pm an gK ct)
def b7b{x qual:bI}{st:iz}{f:au}{oc:aj}{od an:Option au}{qm:Array (Option aj)}{kV doc pm gK ct:aj}(l:K.lookup f=cz ⟨oc,od,.func (gC x qual (T4 st) (v7 st) (i6 st) .none kV doc pm an gK ct),qm⟩)
    (c:mM K gK qual=rp) (k:gj K (.ref f)=rp):Fun K x qual st f (gC x qual (T4 st) (v7 st) (i6 st) .none kV doc pm an gK ct):=⟨⟨oc,od,kV,doc,pm,an,gK,ct,qm,rfl,l,c⟩,k⟩
end
def a1h(h:n<=1000):n<aV:=iA h (by decide)
section
variable {X:Cx}
def pv(i:Nat)(hN:X.N[i]?=cz x:=by rfl)(hv:Vis X.env.scope x:=by first|exact cg rfl|exact bP (cg rfl)|exact bP (bP rfl))(hd:(x==("__debug__":bI))=xn:=by decide)
    (jg:(x==("__classdict__":bI))=xn:=by decide):PE X (.Name x pos) (b3V i):=x9 hN hv hd jg
end
def a6l{A B:Prop}(h:B):if xn=rp then A else B:=by
  rw[aI bo];exact h
def a6m{A B:Prop}(h:A):if rp=rp then A else B:=by
  rw[aC rfl];exact h
def Same(H H':Hp):Prop:=∀b o,H b=cz o->H' b=cz o
def Same.refl(H:Hp):Same H H:=λ_ _ h=>h
def Same.trans(a:Same H H1)(b:Same H1 H2):Same H H2:=λc o h=>b c o (a c o h)
def Same.free{H H':Hp}(e:Same H H'){l:au}(h:H' l=Option.none):H l=Option.none:=by
  cases q:H l with
  |none=>rfl
  |some o=>
    rw[e l o q]at h;cases h
end L2
set_option Elab.async false
set_option linter.all false
set_option maxRecDepth 100000
set_option maxHeartbeats 4000000
namespace L2
open PySem PySem.Spec PyProof.Rows
def K3(X:Cx)(N:List bI)(scope:gJ)(cl:List (bI×au))(C:au)(s:aq)(H:Hp)(fp:List au):Cx:=
 {X with N:=N,s₀:=s,H₀:=H,env:=compEnvC scope cl C X.env,outer:=X.stack,ex:=fp,fn:=λ_=>xn,xe:=λ_ _=>False}
structure CompIn (X:Cx) (N:List bI) (scope:gJ) (cl:List (bI×au)) (τ:St->St):Prop where
 clos:qA scope X.env=pure cl
 kind:scope.kind=.function
 ncell:∀y∈scope.names,y.2≠.cell
 names:∀y∈scope.names,y.2=.local->scope.names.lookup y.1=cz .local
 sub:∀x c,cl.lookup x=cz c->X.env.cells.lookup x=cz c
 has:∀y∈scope.names,y.2=.free->∃c,cl.lookup y.1=cz c
 tlen:∀Y,(τ Y).length=N.length
 tval:∀(Y:St) (i:Nat) (x:bI) (v:V),N[i]?=cz x->(τ Y)[i]?=cz (cz v)->∃j:Nat,X.N[j]?=cz x/\Y[j]?=cz (cz v)/\scope.names.lookup x=cz .free/\(X.env.kindOf x=cz .cell\/X.env.kindOf x=cz .free)
def a0y{scope:gJ}(hn:∀y∈scope.names,y.2≠.cell)(h:(mT scope env).names.lookup x=cz .cell\/(mT scope env).names.lookup x=cz .free):∃y∈scope.names,y.1=x/\y.2=.free:=by
 have key:∀k,(mT scope env).names.lookup x=cz k->k=.cell\/k=.free->∃y∈scope.names,y.1=x/\y.2=.free:=λk e hk=>by
  have hm:=cu e;unfold mT at hm;obtain⟨⟨n,k'⟩,hy,e2⟩:=bj.mp hm
  dsimp only at e2
  by_cases hc:(k'==fT&&env.scope.kind==.function&&env.kindOf n==cz .cell)=rp
  ·rw[aC hc]at e2;cases e2
   rw[ar,ar]at hc;exact⟨_,hy,rfl,by simpa using hc.1.1⟩
  ·rw[aI hc]at e2;cases e2
   rcases hk with rfl|rfl
   ·exact absurd rfl (hn _ hy)
   ·exact⟨_,hy,rfl,rfl⟩
 rcases h with h|h
 ·exact key _ h (.inl rfl)
 ·exact key _ h (.inr rfl)
def a5n{scope:gJ}(h:scope.names.lookup x=cz .free):(mT scope env).names.lookup x=cz .cell\/(mT scope env).names.lookup x=cz .free:=by
 have key:∀names:List (bI×jC),names.lookup x=cz .free->
   (names.map λ(n,k)=>if (k==fT&&env.scope.kind==.function&&env.kindOf n==cz .cell) then (n,jC.cell) else (n,k)).lookup x=cz .cell\/
   (names.map λ(n,k)=>if (k==fT&&env.scope.kind==.function&&env.kindOf n==cz .cell) then (n,jC.cell) else (n,k)).lookup x=cz .free:=by
  intro names
  induction names with
  |nil=>intro h;cases h
  |cons z r ih=>
   obtain⟨n,k⟩:=z;intro h;rw[aA]
   dsimp only
   rw[gn]at h;cases hx:x==n with
   |true=>
    rw[hx]at h;have hk:k=.free:=by simpa using h
    subst hk;by_cases hc:(fT==fT&&env.scope.kind==.function&&env.kindOf n==cz .cell)=rp
    ·rw[aC hc,gn,hx];exact .inl rfl
    ·rw[aI hc,gn,hx];exact .inr rfl
   |false=>
    rw[hx]at h;by_cases hc:(k==fT&&env.scope.kind==.function&&env.kindOf n==cz .cell)=rp
    ·rw[aC hc,gn,hx];exact ih h
    ·rw[aI hc,gn,hx];exact ih h
 exact key _ h
structure Has (P:bA) (w:bX) (K:ae) (mg:bI->Option aj) (base:cf) (x:bI) (k:Nat) (ps:List bI) (sp:Sp):Prop where
 ex:∃f fd,FnOk P w K mg base CX0 k f fd ps sp/\Binds K fd ps []/\gj K (.ref f)=rp/\mg x=cz (.ref f)
def Has.up{P:bA}{w:bX}{K:ae}{mg:bI->Option aj}{base:cf}{x:bI}{j k:Nat}{ps:List bI}{sp:Sp}(h:Has P w K mg base x j ps sp)(l:j<=k):Has P w K mg base x k ps sp:=by
 obtain⟨f,fd,a,b⟩:=h.ex;exact⟨f,fd,a.mono l,b⟩
section
variable {X:Cx}{k:Nat}{ps:List bI}{sp:Sp}{x:bI}{p pos:fQ}{e:Expr}{es:List Expr}{t:TA}
def a5o(h:Has X.prog X.w X.K X.mg X.base x k ps sp)(hr:Room k X.A)(ha:PA X (e::es) t)(hg:Gl X x:=by rfl)(lX:(x==("__debug__":bI))=xn:=by decide)
  (he:ao (e::es) X.env=(xn,cG e X.env)::ao es X.env:=by rfl) (gh:(cC pos (ao es X.env)).any (·.1)=xn:=by rfl):PE X (.Call (.Name x p) (e::es) [] pos) (b5W sp [] E0 t):=by
 obtain⟨f,fd,F,b,kp,m⟩:=h.ex;exact b4d F hr hg m kp b .nil b9i ha lX he gh
end
mutual
def Den(H:Hp):V->br->Prop
 |v,.none=>v=.non
 |v,.bool b=>v=.bl b
 |v,.int i=>v=.int i
 |v,.str x=>v=.str x
 |v,.list ds=>∃a xs,v=.ref a/\H a=cz (.lst xs)/\DenAll H xs ds
 |v,.tuple ds=>∃a xs,v=.ref a/\H a=cz (.tup xs)/\DenAll H xs ds
 |v,.dict kvs=>kvs=[]/\∃a,v=.ref a/\H a=cz (.dK [])
def DenAll(H:Hp):List V->List br->Prop
 |xs,[]=>xs=[]
 |xs,d::ds=>∃v r,xs=v::r/\Den H v d/\DenAll H r ds
end
mutual
theorem Den.mono{H H':Hp}(e:Same H H'):∀(d:br) {v:V},Den H v d->Den H' v d
 |.none,_,h=>by simpa only [Den]using h
 |.bool _,_,h=>by simpa only [Den]using h
 |.int _,_,h=>by simpa only [Den]using h
 |.str _,_,h=>by simpa only [Den]using h
 |.list ds,_,h=>by
  simp only[Den]at h ⊢;obtain⟨a,xs,h1,h2,h3⟩:=h;exact⟨a,xs,h1,e _ _ h2,DenAll.mono e ds h3⟩
 |.tuple ds,_,h=>by
  simp only[Den]at h ⊢;obtain⟨a,xs,h1,h2,h3⟩:=h;exact⟨a,xs,h1,e _ _ h2,DenAll.mono e ds h3⟩
 |.dict _,_,h=>by
  simp only[Den]at h ⊢;obtain⟨h0,a,h1,h2⟩:=h;exact⟨h0,a,h1,e _ _ h2⟩
theorem DenAll.mono{H H':Hp}(e:Same H H'):∀(ds:List br) {xs:List V},DenAll H xs ds->DenAll H' xs ds
 |[],_,h=>by simpa only [DenAll]using h
 |d::ds,_,h=>by
  simp only[DenAll]at h ⊢;obtain⟨v,r,h1,h2,h3⟩:=h;exact⟨v,r,h1,Den.mono e d h2,DenAll.mono e ds h3⟩
end
def Den.up{H H':Hp}{d:br}{v:V}(h:Den H v d)(e:Same H H'):Den H' v d:=Den.mono e d h
def DenAll.up{H H':Hp}{ds:List br}{xs:List V}(h:DenAll H xs ds)(e:Same H H'):DenAll H' xs ds:=DenAll.mono e ds h
section
variable {H:Hp}
def den_none:Den H .non .none:=by simp only[Den]
def den_bool{b:Bool}:Den H (.bl b) (.bool b):=by simp only[Den]
def den_int{i:Int}:Den H (.int i) (.int i):=by simp only[Den]
def den_list{a:au}{xs:List V}{ds:List br}(h:H a=cz (.lst xs))(q:DenAll H xs ds):Den H (.ref a) (.list ds):=by
 simp only[Den];exact⟨a,xs,rfl,h,q⟩
def den_tup{a:au}{xs:List V}{ds:List br}(h:H a=cz (.tup xs))(q:DenAll H xs ds):Den H (.ref a) (.tuple ds):=by
 simp only[Den];exact⟨a,xs,rfl,h,q⟩
def denAll_nil:DenAll H [] []:=by simp only[DenAll]
def denAll_cons{v:V}{d:br}{xs:List V}{ds:List br}(h:Den H v d)(q:DenAll H xs ds):DenAll H (v::xs) (d::ds):=by
 simp only[DenAll];exact⟨v,xs,rfl,h,q⟩
def Den.list_inv{v:V}{ds:List br}(h:Den H v (.list ds)):∃a xs,v=.ref a/\H a=cz (.lst xs)/\DenAll H xs ds:=by simpa only [Den]using h
def Den.tup_inv{v:V}{ds:List br}(h:Den H v (.tuple ds)):∃a xs,v=.ref a/\H a=cz (.tup xs)/\DenAll H xs ds:=by simpa only [Den]using h
def Den.int_inv{v:V}{i:Int}(h:Den H v (.int i)):v=.int i:=by simpa only [Den]using h
def DenAll.cons_inv{xs:List V}{d:br}{ds:List br}(h:DenAll H xs (d::ds)):∃v r,xs=v::r/\Den H v d/\DenAll H r ds:=by simpa only [DenAll]using h
def DenAll.nil_inv{xs:List V}(h:DenAll H xs []):xs=[]:=by simpa only [DenAll]using h
theorem DenAll.length:∀{ds:List br} {xs:List V},DenAll H xs ds->xs.length=ds.length
 |[],_,h=>by rw[h.nil_inv];rfl
 |d::ds,_,h=>by
  obtain⟨v,r,rfl,_,h⟩:=h.cons_inv;rw[ba,ba,DenAll.length h]
theorem DenAll.get:∀{ds:List br} {xs:List V} {i:Nat} {d:br},DenAll H xs ds->ds[i]?=cz d->∃v,xs[i]?=cz v/\Den H v d
 |[],_,i,d,_,e=>by simp at e
 |d0::ds,_,0,d,h,e=>by
  obtain⟨v,r,rfl,h1,_⟩:=h.cons_inv;have:d0=d:=by simpa using e
  subst this;exact⟨v,rfl,h1⟩
 |d0::ds,_,i+1,d,h,e=>by
  obtain⟨v,r,rfl,_,h1⟩:=h.cons_inv;obtain⟨u,h2,h3⟩:=DenAll.get (i:=i) h1 (by simpa using e);exact⟨u,by simpa using h2,h3⟩
def DenAll.getV{ds:List br}{xs:List V}{i:Nat}{v:V}(h:DenAll H xs ds)(e:xs[i]?=cz v):∃d,ds[i]?=cz d/\Den H v d:=by
 have hi:=(aN.mp e).1;rw[h.length]at hi;obtain⟨u,h1,h2⟩:=h.get (ai hi);rw[e]at h1;cases h1
 exact⟨_,ai hi,h2⟩
theorem DenAll.append:∀{ds:List br} {xs:List V} {es:List br} {ys:List V},DenAll H xs ds->DenAll H ys es->DenAll H (xs++ys) (ds++es)
 |[],_,_,_,h,q=>by rw[h.nil_inv];exact q
 |d::ds,_,_,_,h,q=>by
  obtain⟨v,r,rfl,h1,h2⟩:=h.cons_inv;exact denAll_cons h1 (DenAll.append h2 q)
end
mutual
theorem Den.reads{P:bA}{w:bX}{H:Hp}{h:cf}(ok:HOk P w H h):∀(d:br) {v:V} {u:aj},d.canLay0=rp->Den H v d->RelV v u->∃as,Reads h u d as
 |.none,v,u,_,q,r=>by
  simp only[Den]at q;subst q;cases (show u=bb from r)
  exact⟨_,.none⟩
 |.bool b,v,u,_,q,r=>by
  simp only[Den]at q;subst q;cases (show u=jW b from r)
  exact⟨_,.bool b⟩
 |.int i,v,u,_,q,r=>by
  simp only[Den]at q;subst q;obtain⟨t,rfl⟩:=r;exact⟨_,.int i t⟩
 |.str x,v,u,_,q,r=>by
  simp only[Den]at q;subst q;obtain⟨t,rfl⟩:=r;exact⟨_,.str x t⟩
 |.list ds,v,u,hl,q,r=>by
  simp only[Den]at q;obtain⟨a,xs,rfl,h1,h2⟩:=q;cases (show u=be a from r)
  obtain⟨z,cQ,n,rv,e⟩:=ok a _ h1;obtain⟨as,ra⟩:=DenAll.reads ok ds hl h2 rv;exact⟨_,.list e rfl rfl (by simpa using ra)⟩
 |.tuple ds,v,u,hl,q,r=>by
  simp only[Den]at q;obtain⟨a,xs,rfl,h1,h2⟩:=q;cases (show u=be a from r)
  obtain⟨z,cQ,rv,o,e,c,n,d⟩:=ok a _ h1;obtain⟨as,ra⟩:=DenAll.reads ok ds hl h2 rv;exact⟨_,.tuple e c d (by simpa using ra)⟩
 |.dict _,_,_,hl,_,_=>nomatch hl
theorem DenAll.reads{P:bA}{w:bX}{H:Hp}{h:cf}(ok:HOk P w H h):∀(ds:List br) {xs:List V} {us:List aj},bp ds=rp->DenAll H xs ds->Vals xs us->∃as,jz h us ds as
 |[],xs,us,_,q,r=>by
  simp only[DenAll]at q;subst q;cases r
  exact⟨_,.nil⟩
 |d::ds,xs,us,hl,q,r=>by
  have qz:d.canLay0=rp/\bp ds=rp:=by simpa[bp]using hl
  simp only[DenAll]at q;obtain⟨v,rs,rfl,h1,h2⟩:=q;cases r with
  |cons r1 r2=>
   obtain⟨as,ra⟩:=Den.reads ok d qz.1 h1 r1;obtain⟨bs,rb⟩:=DenAll.reads ok ds qz.2 h2 r2;exact⟨_,.cons ra rb⟩
end
section
variable {X:Cx}
def tyD:br->String
 |.int _=>"int"
 |.bool _=>"bool"
 |.list _=>"list"
 |.tuple _=>"tuple"
 |.none=>"NoneType"
 |.str _=>"str"
 |.dict _=>"dict"
def Den.ty{K:ae}{H:Hp}{v:V}:∀{d:br},Den H v d->TyOf K H v (.type (tyD d))
 |.none,h=>by simp only[Den]at h;subst h;exact .non
 |.bool _,h=>by simp only[Den]at h;subst h;exact .bl _
 |.int _,h=>by simp only[Den]at h;subst h;exact .int _
 |.str _,h=>by simp only[Den]at h;subst h;exact .str _
 |.list _,h=>by simp only[Den]at h;obtain⟨a,xs,rfl,h1,_⟩:=h;exact .lst h1
 |.tuple _,h=>by simp only[Den]at h;obtain⟨a,xs,rfl,h1,_⟩:=h;exact .tup h1
 |.dict _,h=>by simp only[Den]at h;obtain⟨_,a,rfl,h1⟩:=h;exact .dK h1
def call_listK(K:ae)(h:X.K=K):CallR X (.type "list") (λxs H Q=>∃p ys,xs=[.ref p]/\(SqL K H p ys\/SqT K H p ys)/\∀l,H l=p4->Q (.ref l) (upd H l (.lst ys))):=by
 subst h;exact a0x
def Inv.sysBelow(I:Inv X pins Y H s):df<s.heap.objs.size:=by
 have h:bV<s.heap.objs.size:=(I.mod.glob.keeps I.bk).lt;exact fZ (by decide) h
end
def j6(h:H p=p4)(o:HO):Same H (upd H p o):=λb u q=>by rw[f7 (m8 q h)];exact q
def b1x(e:Same H H')(h:H p=p4)(o:HO):Same H (upd H' p o):=λb u q=>by rw[f7 (m8 q h)];exact e b u q
def PTs(X:Cx)(ifs:List Expr)(tt:TT):Prop:=
 ∀(pins:List (au×gE)) (s:aq) (Y:St) (H:Hp) (Q:Bool->Hp->Prop),Inv X pins Y H s->tt Y H Q->
  aG (aT X.prog X.w) X.A (forIn ifs rp λc r=>if r=rp then do let ok <-so c X.env (cG c X.env);pure (dW ok) else pure (dW r)) (TP X pins Y Q) X.xe s
def c0R:TT:=λ_ H Q=>Q rp H
def b4n:PTs X [] c0R:=λ_ _ Y H _ I h=>wpAny_tests_nil ⟨H,I,h⟩
def b4o(h:PT X c tt):PTs X [c] tt:=λpins s Y H Q I q=>wpAny_tests_one (h pins s Y H Q I q)
section
variable {prog:bA}{w:bX}{A:bL}{R:Result->aq->Prop}{s:aq}
def a3X(I:Nat->aq->Prop)
  (turn:∀n s,I n s->aG (aT prog w) A (k_ it) (λr s₁=>match r with
   |none=>R (.ok .next) s₁
   |some v=>aG (aT prog w) A (nk target it v) (λ_ s₂=>aG (aT prog w) A (qB target env v) (λ_ s₃=>
     aG (aT prog w) A (forIn ifs rp λc r=>if r=rp then do let ok <-so c env (cG c env);pure (dW ok) else pure (dW r)) (λok qQ=>
     if ok=rp then aG (aT prog w) A (cG elt env) (λx s₄=>
      aG (aT prog w) A (call (.builtin "list.append") [acc,x]) (λ_ s₅=>∃m,m<n/\I m s₅) (λ_ _=>False) s₄) (λ_ _=>False) qQ
     else ∃m,m<n/\I m qQ)
     (λ_ _=>False) s₃) (λ_ _=>False) s₂) (λ_ _=>False) s₁) (λ_ _=>False) s)
  (n:Nat) (h:I n s) :
  iZ (aT prog w) A (.compLoop (.ListComp elt [⟨target,iter,ifs,0⟩] scope pos) 0 it acc env) R s:=by
 refine codeAny_loop rfl I (λn s hI=>?_) n h;show aG _ _ ((compTurn (.ListComp elt [⟨target,iter,ifs,0⟩] scope pos) 0 it acc env).onRaise (λx=>do noteFrame x env;theTreesLotGoes x)) _ _ s;refine wpAny_noted ?_;rw[compTurn_list];refine ab (wpAny_standAt (ab (de (turn n s hI) (λr s₁ h₁=>?_) λ_ _ h'=>h'.elim)));cases r with
 |none=>exact ah h₁
 |some v=>
  refine ab (de h₁ (λ_ s₂ h₂=>?_) λ_ _ h'=>h'.elim);refine ab (de h₂ (λ_ s₃ h₃=>ab (de h₃ (λok qQ pP=>?_) λ_ _ h'=>h'.elim)) λ_ _ h'=>h'.elim);cases ok with
  |false=>
   rw[aI bo]at pP;exact ab (ah (ah ⟨rfl,pP⟩))
  |true=>
   rw[aC rfl]at pP;exact ab (ab (de pP (λx s₄ h₄=>ab (de h₄ (λ_ s₅ h₅=>ah (ah ⟨rfl,h₅⟩)) λ_ _ h'=>h'.elim)) λ_ _ h'=>h'.elim))
end
def a5p(wi:TI)(g:TG)(tt:TT)(te:TE)(τ:St->St):TE:=λY H Q=>wi Y H λJ H1=>∀D,H1 D=p4->∃W:Nat->Nat->List V->St->Hp->Prop,(∃m,W 0 m [] (τ Y) (upd H1 D (.lst [])))/\
 ∀i m ys Y' H',W i m ys Y' H'->(J.stop i H'/\Q (.ref D) H')\/
  (J.go i H'/\∃(N:V->St->Hp->Prop) (NO:St->Hp->Prop),(∀y Y3 H4,N y Y3 H4->H4 D=cz (.lst ys)/\ys.length<aV/\∃m',m'<m/\W (i+1) m' (ys++[y]) Y3 (upd H4 D (.lst (ys++[y]))))/\
   (∀Y3 H4,NO Y3 H4->∃m',m'<m/\W (i+1) m' ys Y3 H4)/\∀x H2,J.yld i H' x H2->g x Y' H2 λY3 H3=>tt Y3 H3 λb H4=>if b=rp then te Y3 H4 λy H5=>N y Y3 H5 else NO Y3 H4)
section
variable {X:Cx}{N:List bI}{scope:gJ}{cl:List (bI×au)}{τ:St->St}{elt tg iter:Expr}{ifs:List Expr}{pos:fQ}{wi:TI}{g:TG}{tt:TT}{te:TE}
def a4n(hc:X.calm=rp)(hi:PI X tg iter wi)(C:CompIn X N scope cl τ)(hg:∀Cl s H fp,PG (K3 X N scope cl Cl s H fp) tg g)(ht:∀Cl s H fp,PTs (K3 X N scope cl Cl s H fp) ifs tt)(he:∀Cl s H fp,PE (K3 X N scope cl Cl s H fp) elt te)
  (I:Inv X pins Y H s) (h:a5p wi g tt te τ Y H R) {PP:aj->au->Result->aq->Prop}
  (FT:∀D Cl Hn s' o m,Inv X pins Y Hn s'->R (.ref D) Hn->a0u X pins Hn Cl->s'.heap.get? Cl=cz o->(∀v,o.data≠.cell v)->(∀h':cf,h'.get? Cl=cz o->h'.Ns Cl m)->PP (.ref D) Cl (.ok .next) s') :
  aG (aT X.prog X.w) X.A (cG iter X.env) (λx s₁=>aG (aT X.prog X.w) X.A (pyIter x) (λit s₂=>aG (aT X.prog X.w) X.A (newList []) (λacc s₃=>
   aG (aT X.prog X.w) X.A (newFunctionEnv scope X.env.globals cl [] X.env.qual p4 .none (cz X.env)) (λxP s₄=>
    iZ (aT X.prog X.w) X.A (.compStart (.ListComp elt [⟨tg,iter,ifs,0⟩] scope pos) 0 it acc {xP with scope:=mT scope X.env}) (PP acc xP.locals) s₄) X.xe s₃) X.xe s₂) X.xe s₁) X.xe s:=by
 refine thn (hi pins s Y H _ I h) λx s1 h1=>thn h1 λzq s2 h2=>?_
 obtain⟨it,fp,tn,J,H2,rfl,I2,T,kX,f2,q⟩:=h2;refine eL (wpAny_newFunctionEnv C.ncell (by intro y hy;simp at hy) (λh₁ pD nG=>?_) C.kind)
 dsimp only at pD nG ⊢
 generalize AD:s2.heap.push {cls:=.type "list",dict:=p4,data:=.seq ([]:List aj).toArray}=G2 at pD nG ⊢;have hC:G2.objs.size=s2.heap.objs.size+1:=by rw[<-AD,ip]
 have CG:s2.heap.objs.size≠G2.objs.size:=by rw[hC];exact bK (GU _)
 have vk:s2.heap.objs.size<=G2.objs.size:=by rw[hC];exact jB _
 have below:∀b,b<s2.heap.objs.size->b≠G2.objs.size:=λb hb=>by rw[hC];exact bK (oQ hb)
 have old:∀b o,s2.heap.get? b=cz o->h₁.get? b=cz o:=λb o e=>nG.extBut b o (below b (aM e)) (af _ (AD▸af _ e))
 have jc:h₁.get? s2.heap.objs.size=cz {cls:=.type "list",dict:=p4,data:=.seq ([]:List aj).toArray}:=nG.extBut _ _ CG (af _ (AD▸aL _ rfl));have AK:∀b∈fp,b<s2.heap.objs.size:=λb hb=>by
  obtain⟨o,e,_⟩:=T.obj 0 _ kX b hb;exact aM e
 have CF:H2 s2.heap.objs.size=p4:=I2.hok.fresh (ay _);have Gc:H2 G2.objs.size=p4:=I2.hok.fresh vk;generalize yC:G2.objs.size=Cl at *;have Dx:∀b∈frs X.stack,b<s2.heap.objs.size:=λb hb=>by
  rcases aF.mp (I2.stkSub b hb) with e|hb
  ·rw[e];exact I2.lt
  ·obtain⟨_,o,ho,_⟩:=I2.funs.mem hb;exact aM ho
 have zc:(K3 X N scope cl Cl s2 H2 fp).Ok:=by
  refine⟨I2.ok.mod,C.kind,I2.ok.glob,I2.ok.blt,vk,λx y c e1 e2=>I2.ok.inj x y c (C.sub x c e1) (C.sub y c e2),λx hx=>?_,λx c hx _=>(nomatch hx),λz=>I2.ok.hd z,I2.ok.frames,.inl rfl,λb hb=>⟨below b (AK b hb),λx c e=>(f2 b hb).2.2.2.2.1 x c (C.sub x c e)⟩,
   I2.bs,cU I2.ok.bsz I2.sz,λb o e hb=>?_,λb hb z=>?_,I2.stack,I2.stkFree,I2.tabs⟩
  ·obtain⟨y,hy,rfl,ey⟩:=a0y C.ncell hx;exact C.has y hy ey
  ·rcases (f2 b hb).2.2.2.1 with z|z
   ·exact I2.ok.noex b o e z
   ·exact absurd (bH (aM e) (cU I2.ok.bsz z)) (dQ _)
  ·rcases aF.mp (I2.stkSub b z) with e|e
   ·exact (f2 b hb).2.1 e
   ·exact (f2 b hb).2.2.1 e
 have I4:Inv (K3 X N scope cl Cl s2 H2 fp) pins (τ Y) (upd H2 s2.heap.objs.size (.lst [])) {s2 with heap:=h₁,toks:=s2.toks+([]:List (bI×aj)).length}:=by
  have lc:=I2.loc;obtain⟨m,hn,hl⟩:=lc;refine⟨zc,rfl,I2.bare,Un.laid old (ay _) CF,⟨_,pD,λi x v e1 e2 e3=>?_⟩,λx c e=>?_,?_,λx c e=>?_,λp hp=>?_,I2.hok.laid old (ay _) ⟨cj _,[],_,.nil,jc⟩,C.tlen Y⟩
  ·obtain⟨j,j1,j2,j3,j4⟩:=C.tval Y i x v e1 e2;have kx:(mT scope X.env).names.lookup x=cz .cell\/(mT scope X.env).names.lookup x=cz .free:=a5n j3;obtain⟨y,hy,Gj,ey⟩:=a0y C.ncell kx;obtain⟨c,vd⟩:=C.has y hy ey;rw[Gj]at vd;have xq:=C.sub x c vd;have hv:Vis X.env.scope x:=.inr j4;obtain⟨u,ru,lk⟩:=hl j x v j1 j2 hv;refine⟨u,ru,?_⟩;rcases lk with⟨k,_⟩|⟨k,c',e',z⟩
   ·rcases j4 with j4|j4
    ·rw[j4]at k;cases k
    ·rw[j4]at k;cases k
   ·rw[xq]at e';cases e'
    obtain⟨o,ho,hd⟩:=z;exact .inr ⟨kx,c,vd,⟨o,old c o ho,hd⟩⟩
  ·obtain⟨v,o,ho,hd⟩:=I2.cell x c (C.sub x c e);exact⟨v,o,old c o ho,hd⟩
  ·show upd H2 s2.heap.objs.size (.lst []) Cl=p4;rw[f7 (dN CG)];exact Gc
  ·have n:=I2.freeC x c (C.sub x c e);obtain⟨v,o,ho,hd⟩:=I2.cell x c (C.sub x c e);rw[f7 (bK (aM ho))];exact n
  ·obtain⟨e,n,ne,nf,d⟩:=I2.pin p hp;refine⟨old _ _ e,by rw[f7 (bK (aM e))];exact n,below _ (aM e),λz=>?_,d⟩;rcases aF.mp (I2.stkSub p.1 z) with e'|e'
   ·exact ne e'
   ·exact nf e'
 have pd:∀{H':Hp},(∀b∈fp,H' b=p4)->∀b∈fp,a0u (K3 X N scope cl Cl s2 H2 fp) pins H' b:=λhn b hb=>
  ⟨hn b hb,below b (AK b hb),zc.exfs b hb,.inl hb,(zc.exf b hb).2,(f2 b hb).2.2.2.2.2⟩
 obtain⟨W,⟨m0,w0⟩,turn⟩:=q s2.heap.objs.size CF;have loop:∀s₃:aq,s₃={s2 with heap:=h₁,toks:=s2.toks+([]:List (bI×aj)).length}->
   iZ (aT X.prog X.w) X.A (.compLoop (.ListComp elt [⟨tg,iter,ifs,0⟩] scope pos) 0 (.ref it) (.ref s2.heap.objs.size) (compEnvC scope cl Cl X.env)) (PP (.ref s2.heap.objs.size) Cl) s₃:=by
  rintro s₃ rfl;refine a3X (λn s'=>∃i ys Y' H',Inv (K3 X N scope cl Cl s2 H2 fp) pins Y' H' s'/\tn i s'.heap/\(∀b∈fp,H' b=p4)/\W i n ys Y' H') ?_ m0
   ⟨0,[],τ Y,_,I4,T.keep _ _ _ kX λb hb o e=>old b o e,λb hb=>by rw[f7 (bK (AK b hb))];exact (f2 b hb).1,w0⟩
  rintro n s3 ⟨i,ys,Y3,H3,I3,jS,xH,w3⟩;rcases turn i n ys Y3 H3 w3 with⟨stop,qn⟩|⟨go,NN,NO,hN,hO,step⟩
  ·refine thn (T.done (K3 X N scope cl Cl s2 H2 fp) rfl rfl rfl hc i pins s3 Y3 H3 _ I3 (pd xH) jS stop) λr s4 ⟨hr,I5⟩=>?_
   subst hr;have lc:=I5.loc;obtain⟨m,hn,_⟩:=lc;obtain⟨o,es,ep,ho,hd,ki⟩:=hn;have J5:Inv X pins Y H3 s4:=I2.call' (ch:=fp) I5.os I5.base I5.hok I5.bare λb hb=>⟨(f2 b hb).2.2.2.1,(f2 b hb).2.1,(f2 b hb).2.2.2.2.1,(f2 b hb).2.2.2.2.2⟩
   refine FT _ Cl H3 s4 o m J5 qn (I2.fpOk vk I5.free) ho (λv z=>by rw[hd]at z;cases z) λh' e=>⟨o,es,ep,e,hd,ki⟩
  ·refine thn (T.item (K3 X N scope cl Cl s2 H2 fp) rfl rfl rfl hc i pins s3 Y3 H3 _ I3 (pd xH) jS go) λr s4 ⟨u,hr,h4⟩=>?_
   subst hr;refine thn h4 λ_ s5 ⟨x,H5,I5,r5,y5,qR,AJ⟩=>?_
   have AY:=I5.pinned (pd AJ) (T.obj _ _ qR);refine thn (hg Cl s2 H2 fp _ s5 Y3 H5 x u _ AY r5 (step x H5 y5)) λ_ s6 ⟨Y6,H6,I6,q6⟩=>?_
   refine thn (ht Cl s2 H2 fp _ s6 Y6 H6 _ I6 q6) λok Dy ⟨Ha,yM,xX⟩=>?_
   cases ok with
   |false=>
    rw[aI bo]at xX ⊢;obtain⟨m',hm,w7⟩:=hO _ _ xX;refine⟨m',hm,i+1,ys,Y6,_,yM.unpinned,T.keep _ _ _ qR λb hb o e=>(yM.pin (b,o) (ax _ (ax _ (D7 hb e)))).1,λb hb=>?_,w7⟩;obtain⟨o,e,d⟩:=T.obj _ _ qR b hb;exact (yM.pin (b,o) (ax _ (ax _ (D7 hb e)))).2.1
   |true=>
    rw[aC rfl]at xX ⊢;refine thn (he Cl s2 H2 fp _ Dy Y6 Ha _ yM xX) λyv s7 ⟨y,H7,I7,r7,q7⟩=>?_
    obtain⟨DF,DE,m',hm,w7⟩:=hN _ _ _ q7;refine thn (X2 (X:=K3 X N scope cl Cl s2 H2 fp) _ s7 Y6 H7 (.ref s2.heap.objs.size) [y] (.ref s2.heap.objs.size) [yv] (λ_ H8=>H8=upd H7 s2.heap.objs.size (.lst (ys++[y]))) I7 rfl (.cons r7 .nil)
     ⟨_,ys,y,rfl,rfl,DF,DE,rfl⟩) λ_ s8 ⟨_,H8,I8,_,e8⟩=>?_
    subst e8;refine⟨m',hm,i+1,ys++[y],Y6,_,I8.unpinned,T.keep _ _ _ qR λb hb o e=>(I8.pin (b,o) (ax _ (ax _ (D7 hb e)))).1,λb hb=>?_,w7⟩;obtain⟨o,e,d⟩:=T.obj _ _ qR b hb;exact (I8.pin (b,o) (ax _ (ax _ (D7 hb e)))).2.1
 have lz:tn 0 h₁:=T.keep _ _ _ kX λb hb o e=>old b o e
 exact codeAny_compStart_list (loop _ rfl) (T.self X.A 0 {s2 with heap:=h₁,toks:=s2.toks+([]:List (bI×aj)).length} _ _ lz (loop _ rfl))
end
def y6(env:pZ):List (bI×jC)->List (bI×au)->List (bI×au)
 |[],cs=>cs
 | (n,k)::r,cs=>y6 env r (if k==.free then (n,(env.cells.lookup n).getD 0)::cs else cs)
theorem V3{env:pZ}:∀(names:List (bI×jC)) (cs:List (bI×au)),(∀y∈names,y.2=.free->∃c,env.cells.lookup y.1=cz c)->
  (forIn names cs λ(x:bI×jC) (cs:List (bI×au))=>(if x.2==.free then do let a <-cellOf env x.1;pure (dW ((x.1,a)::cs)) else pure (dW cs):yK (ForInStep (List (bI×au)))))=pure (y6 env names cs)
 |[],cs,_=>by rw[ku];rfl
 | (n,k)::r,cs,h=>by
  rw[jJ]
  dsimp only
  by_cases hk:(k==fT)=rp
  ·obtain⟨c,hc⟩:=h (n,k) av (by simpa using hk);rw[aC hk];have e:cellOf env n=pure c:=by unfold cellOf;rw[hc]
   rw[e];have:=V3 r ((n,c)::cs) λy hy=>h y (aw _ hy)
   have e2:y6 env ((n,k)::r) cs=y6 env r ((n,c)::cs):=by
    show y6 env r (if k==.free then (n,(env.cells.lookup n).getD 0)::cs else cs)=_;rw[aC hk,hc];rfl
   rw[e2,<-this];simp only[pure_bind]
  ·rw[aI hk];have:=V3 r cs λy hy=>h y (aw _ hy)
   have e2:y6 env ((n,k)::r) cs=y6 env r cs:=by
    show y6 env r (if k==.free then (n,(env.cells.lookup n).getD 0)::cs else cs)=_;rw[aI hk]
   rw[e2,<-this];simp only[pure_bind]
def a7I{scope:gJ}{env:pZ}(h:∀y∈scope.names,y.2=.free->∃c,env.cells.lookup y.1=cz c):qA scope env=pure (y6 env scope.names []):=by
 have:=V3 scope.names [] h;rw[<-this];unfold qA;simp
theorem a0i{env:pZ}:∀(names:List (bI×jC)) (cs:List (bI×au)),(∀y∈names,y.2=.free->∃c,env.cells.lookup y.1=cz c)->(∀p∈cs,env.cells.lookup p.1=cz p.2)->
  (∀p∈y6 env names cs,env.cells.lookup p.1=cz p.2)/\(∀p∈cs,p∈y6 env names cs)/\∀y∈names,y.2=.free->∃c,(y.1,c)∈y6 env names cs
 |[],cs,_,hc=>⟨hc,λ_ h=>h,λy hy=>(nomatch hy)⟩
 | (n,k)::r,cs,h,hc=>by
  by_cases hk:(k==fT)=rp
  ·obtain⟨c,e⟩:=h (n,k) av (by simpa using hk);have e2:y6 env ((n,k)::r) cs=y6 env r ((n,c)::cs):=by
    show y6 env r (if k==.free then (n,(env.cells.lookup n).getD 0)::cs else cs)=_;rw[aC hk,e];rfl
   rw[e2];obtain⟨a,b,d⟩:=a0i r ((n,c)::cs) (λy hy=>h y (aw _ hy)) λp hp=>by
    rcases aF.mp hp with z|z
    ·rw[z];exact e
    ·exact hc p z
   refine⟨a,λp hp=>b p (aw _ hp),λy hy hf=>?_⟩;rcases aF.mp hy with z|z
   ·rw[z];exact⟨c,b _ av⟩
   ·exact d y z hf
  ·have e2:y6 env ((n,k)::r) cs=y6 env r cs:=by
    show y6 env r (if k==.free then (n,(env.cells.lookup n).getD 0)::cs else cs)=_;rw[aI hk]
   rw[e2];obtain⟨a,b,d⟩:=a0i r cs (λy hy=>h y (aw _ hy)) hc;refine⟨a,b,λy hy hf=>?_⟩;rcases aF.mp hy with z|z
   ·rw[z]at hf;exact absurd (by simpa using hf) hk
   ·exact d y z hf
theorem Z7:∀{l:List (bI×au)},(x,c)∈l->∃c',l.lookup x=cz c'
 |[],h=>nomatch h
 | (y,d)::l,h=>by
  rw[gn];cases e:x==y with
  |true=>exact⟨d,rfl⟩
  |false=>
   rcases aF.mp h with z|z
   ·cases z;simp at e
   ·exact Z7 z
def T5(scope:gJ)(okind:bI->Option jC)(ys:List bI)(js:List Nat)(XN:List bI):Bool:=
 scope.kind==.function&&scope.names.all (λy=>y.2 !=.cell&&(y.2 !=.local||scope.names.lookup y.1==cz .local)&&(y.2 !=.free||(okind y.1==cz .cell||okind y.1==cz .free))) &&
 ys.length==js.length&&(ys.zip js).all λp=>XN[p.2]?==cz p.1&&scope.names.lookup p.1==cz .free&&(okind p.1==cz .cell||okind p.1==cz .free)
def a1i(tn:List bI)(js:List Nat):St->St:=λY=>aS tn.length p4++js.map λj=>(Y[j]?).getD p4
def a4o{X:Cx}{scope:gJ}(ok:X.Ok)(h:T5 scope X.env.kindOf ys js X.N=rp):CompIn X (tn++ys) scope (y6 X.env scope.names []) (a1i tn js):=by
 unfold T5 at h;rw[ar,ar,ar,bD,bD]at h;obtain⟨⟨⟨hk,ha⟩,hl⟩,hz⟩:=h;have nq:∀y∈scope.names,y.2≠.cell:=λy hy e=>by
  have:=ha y hy;rw[e]at this;simp at this
 have zX:∀y∈scope.names,y.2=.local->scope.names.lookup y.1=cz .local:=λy hy e=>by
  have:=ha y hy;rw[e]at this;simpa using this
 have oD:∀y∈scope.names,y.2=.free->∃c,X.env.cells.lookup y.1=cz c:=λy hy e=>by
  have:=ha y hy;rw[e]at this;refine ok.has y.1 ?_;simpa using this
 obtain⟨a,_,d⟩:=a0i scope.names [] oD λp hp=>(nomatch hp)
 refine⟨a7I oD,by simpa using hk,nq,zX,λx c e=>a _ (cu e),λy hy e=>?_,λY=>?_,λY i x v h1 h2=>?_⟩
 ·obtain⟨c,hc⟩:=d y hy e;exact Z7 hc
 ·have:ys.length=js.length:=by simpa using hl
  unfold a1i;simp[this]
 ·unfold a1i at h2;by_cases hi:i<tn.length
  ·rw[eJ (by simpa using hi),uq]at h2
   split at h2<;>cases h2
  ·rw[cY (by simpa using hi),gF,aZ]at h2;rw[cY (by lia)]at h1;cases hj:js[i-tn.length]? with
   |none=>rw[hj]at h2;cases h2
   |some j=>
    rw[hj]at h2;have h3:(Y[j]?).getD p4=cz v:=by simpa using h2
    have mF:(x,j)∈ys.zip js:=by
     have hlen:=(aN.mp h1).1;have Cd:=(aN.mp hj).1;rw[bS];refine⟨i-tn.length,?_⟩;rw[kF];exact⟨h1,hj⟩
    have:=hz _ mF;rw[ar,ar,iw]at this;obtain⟨⟨e1,e2⟩,e3⟩:=this;refine⟨j,by simpa using e1,?_,by simpa using e2,by simpa using e3⟩;cases q:Y[j]? with
    |none=>rw[q]at h3;cases h3
    |some o=>rw[q]at h3;have:o=cz v:=h3;rw[this]
section
variable {X:Cx}{tn ys:List bI}{js:List Nat}{scope:gJ}{elt tg iter:Expr}{ifs:List Expr}{pos:fQ}{wi:TI}{g:TG}{tt:TT}{te:TE}
def b1y(hc:X.calm=rp)(hi:PI X tg iter wi)(C:T5 scope X.env.kindOf ys js X.N=rp)(hg:∀cl Cl s H fp,PG (K3 X (tn++ys) scope cl Cl s H fp) tg g)(ht:∀cl Cl s H fp,PTs (K3 X (tn++ys) scope cl Cl s H fp) ifs tt)(he:∀cl Cl s H fp,PE (K3 X (tn++ys) scope cl Cl s H fp) elt te)
  (hs:∀x,dF iter X.env x=pure x:=by intro _;rfl):PE X (.ListComp elt [⟨tg,iter,ifs,0⟩] scope pos) (a5p wi g tt te (a1i tn js)):=by
 intro pins s Y H Q I h;have C:=a4o (tn:=tn) I.ok C;rw[eval_ListComp];refine yU (use:=p4) rfl hs C.clos C.kind C.names (a4n hc hi C (hg _) (ht _) (he _) I h (PP:=λacc Cl=>compPost (aT X.prog X.w) X.A X.xe p4 (EP X pins Y Q) acc Cl) ?_);intro D Cl Hn s' o m I' hq F ho hd rU;refine⟨m,rU _ ho,λh' iU=>⟨.ref D,Hn,?_,rfl,hq⟩⟩;exact I'.turned (t':=s'.toks) (λb ob hb e=>(iU.2 b hb).trans e) F.1 F.2.1 F.2.2.2.1 F.2.2.2.2.1 F.2.2.2.2.2
def a1L{py og:fQ}(hc:X.calm=rp)(hN:X.N.Nodup)(hy:X.N[i]?=cz y)(hx:Loc X.env.scope y)(hi:PI X tg iter wi)(C:T5 scope X.env.kindOf ys js X.N=rp)
  (hg:∀cl Cl s H fp,PG (K3 X (tn++ys) scope cl Cl s H fp) tg g) (ht:∀cl Cl s H fp,PTs (K3 X (tn++ys) scope cl Cl s H fp) ifs tt) (he:∀cl Cl s H fp,PE (K3 X (tn++ys) scope cl Cl s H fp) elt te)
  (oq:eX (.ListComp elt [⟨tg,iter,ifs,0⟩] scope pos) (cz (.Name y py)) og.line X.env=pure rp:=by rfl) (hs:∀x,dF iter X.env x=pure x:=by intro _;rfl)
  (hf:X.fn y=rp\/X.env.scope.names.lookup y=cz .local:=by first|exact .inl rfl|exact .inr rfl|assumption) :
  PS X (.Assign [.Name y py] (.ListComp elt [⟨tg,iter,ifs,0⟩] scope pos) og) (b6J (a5p wi g tt te (a1i tn js)) (Z6 i)):=by
 intro pins s Y H D I h;have C:=a4o (tn:=tn) I.ok C;rw[exec_Assign_Name_used _ _ _ _ oq];refine ab (wpAny_standAt (ab ?_));show aG _ X.A (do let _ <-comprehension (.ListComp elt [⟨tg,iter,ifs,0⟩] scope pos) scope X.env _ (newList []) xn (cG iter X.env) (cz (qB (.Name y py) X.env))) _ _ s;refine ab (de (yU (use:=cz (qB (.Name y py) X.env)) (Q:=λ_ s'=>SP X pins D .next s') rfl hs C.clos C.kind C.names
  (a4n hc hi C (hg _) (ht _) (he _) I h (PP:=λacc Cl=>compPost (aT X.prog X.w) X.A X.xe (cz (qB (.Name y py) X.env)) (λ_ s'=>SP X pins D .next s') acc Cl) ?_)) (λ_ s' hq=>ah (ah hq)) λ_ _ e=>e)
 intro Dl Cl Hn s' o m I' hq F ho hd rU;have I1:=I'.pinned (fp:=[Cl]) (λb hb=>by rw[ak.mp hb];exact F) (λb hb=>by rw[ak.mp hb];exact⟨o,ho,hd⟩);show aG _ X.A (qB (.Name y py) X.env (.ref Dl)) _ _ _;refine wpAny_assign_Name (a2I I1 hN hy hx (v:=.ref Dl) rfl (λs2 I2=>?_) hf);have e2:=(I2.pin (Cl,o) (ax _ (ax _ (D7 (ak.mpr rfl) ho)))).1;refine⟨m,rU _ e2,λh' iU=>⟨Y.set i (cz (.ref Dl)),Hn,?_,hq⟩⟩;exact I2.unpinned.turned (t':=s2.toks) (λb ob hb e=>(iU.2 b hb).trans e) F.1 F.2.1 F.2.2.2.1 F.2.2.2.2.1 F.2.2.2.2.2
end
end L2
namespace VS
open PySem PySem.Spec L2
abbrev D:=br
mutual
def C2:D->Bool
 |.int _=>rp
 |.tuple ds=>p8 ds
 |.none|.bool _|.str _|.list _|.dict _=>xn
def p8:List D->Bool
 |[]=>rp
 |d::ds=>C2 d&&p8 ds
end
mutual
def hashD:D->Int
 |.int i=>hashInt i
 |.tuple ds=>reduceHash (eV (B5 ds))
 |.none|.bool _|.str _|.list _|.dict _=>0
def B5:List D->List Int
 |[]=>[]
 |d::ds=>hashD d::B5 ds
end
mutual
def r9:D->Nat
 |.int _=>1
 |.tuple ds=>Q1 ds+1
 |.none|.bool _|.str _|.list _|.dict _=>0
def Q1:List D->Nat
 |[]=>0
 |d::ds=>r9 d+Q1 ds
end
mutual
theorem V4:∀d:D,C2 d=rp->d.canLay0=rp
 |.int _,_=>by simp only[dA]
 |.tuple ds,h=>by
  simp only[C2]at h;simp only[dA];exact a1M ds h
 |.none,h|.bool _,h|.str _,h|.list _,h|.dict _,h=>by simp only[C2]at h;cases h
theorem a1M:∀ds:List D,p8 ds=rp->bp ds=rp
 |[],_=>by simp only[bp]
 |d::ds,h=>by
  simp only[p8,ar]at h;simp only[bp,ar];exact⟨V4 d h.1,a1M ds h.2⟩
end
mutual
theorem B6:∀a b:D,C2 a=rp->C2 b=rp->(aH a b=rp↔a=b)
 |.int i,b,_,hb=>by
  cases b with
  |int j=>
   show (i==j)=rp↔_;rw[rJ];exact⟨λe=>by rw[e],λe=>by injection e⟩
  |tuple ds=>simp[aH]
  |_=>simp only[C2]at hb;cases hb
 |.tuple xs,b,ha,hb=>by
  cases b with
  |int j=>simp[aH]
  |tuple ys=>
   simp only[C2]at ha hb;simp only[aH];rw[a1N xs ys ha hb];exact⟨λe=>by rw[e],λe=>by injection e⟩
  |_=>simp only[C2]at hb;cases hb
 |.none,b,h,_|.bool _,b,h,_|.str _,b,h,_|.list _,b,h,_|.dict _,b,h,_=>by simp only[C2]at h;cases h
theorem a1N:∀a b:List D,p8 a=rp->p8 b=rp->(cR a b=rp↔a=b)
 |[],[],_,_=>by simp[cR]
 |[],_::_,_,_=>by simp[cR]
 |_::_,[],_,_=>by simp[cR]
 |x::xs,y::ys,ha,hb=>by
  simp only[p8,ar]at ha hb;simp only[cR,ar];rw[B6 x y ha.1 hb.1,a1N xs ys ha.2 hb.2]
  constructor
  ·rintro⟨rfl,rfl⟩;rfl
  ·intro e;injection e with e1 e2;exact⟨e1,e2⟩
end
mutual
theorem a2M{h h':cf}{es ep}(ho:h.get? d=cz o)(hd:o.data=.dict es ep)(hs:dH d h h'):∀(k:D) {v:aj} {as:List au},C2 k=rp->Reads h v k as->Reads h' v k as
 |.int _,_,_,_,r=>by cases r;exact .int _ _
 |.tuple ds,_,_,hk,r=>by
  simp only[C2]at hk;cases r with
  |@tuple a oo vs n _ as c1 c2 c3 c4=>
   have gN:a≠d:=by
    rintro rfl;obtain rfl:oo=o:=aK (c1.symm.trans ho);rw[hd]at c3;exact nomatch c3
   exact .tuple ((hs.2 a gN).trans c1) c2 c3 (Z8 ho hd hs ds hk c4)
 |.none,_,_,h,_|.bool _,_,_,h,_|.str _,_,_,h,_|.list _,_,_,h,_|.dict _,_,_,h,_=>by simp only[C2]at h;cases h
theorem Z8{h h':cf}{es ep}(ho:h.get? d=cz o)(hd:o.data=.dict es ep)(hs:dH d h h'):∀(ks:List D) {vs:List aj} {as:List au},p8 ks=rp->jz h vs ks as->jz h' vs ks as
 |[],_,_,_,r=>by cases r;exact .nil
 |k::ks,_,_,hk,r=>by
  simp only[p8,ar]at hk;cases r with
  |cons r1 r2=>exact .cons (a2M ho hd hs k hk.1 r1) (Z8 ho hd hs ks hk.2 r2)
end
section
variable {prog:bA}{w:bX}{E:aj->aq->Prop}
mutual
theorem a2N:∀(k:D) {A:bL} {s:aq} {v:aj} {as:List au} {Q:Int->aq->Prop},C2 k=rp->A.units+k.depth<du->Reads s.heap v k as->Q (hashD k) {s with toks:=s.toks+r9 k}->aG (aT prog w) A (pyHash v) Q E s
 |.int i,A,s,v,as,Q,_,_,r,h=>by
  cases r
  simp only[hashD,r9]at h;exact wpAny_pyHash_int h
 |.tuple ds,A,s,v,as,Q,hk,hu,r,h=>by
  simp only[C2]at hk;simp only[gk]at hu;simp only[hashD,r9]at h;cases r with
  |@tuple a o items n _ as ho hc hd hi=>
   have hT:s.TypeIs (.ref a) "tuple":=⟨o,ho,hc⟩;unfold pyHash
   first|unfold pyHashByItsType|skip
   first|refine ab (wpAny_cRoomFor_or (.inr (by lia)) ?_)|skip
   refine ab (eu hT lU.lookup ?_);show aG _ _ (if (cz (AS "tuple.__hash__")==cz bb)=rp then _ else _) Q E s;rw[aI (by rw[beq_builtin_none];exact bo)];refine ab (eu hT lU.lookup ?_);show aG _ _ (callSpecialIfBoundUnlessNone? (.ref a) "__hash__" _ >>= _) Q E s;refine ab (wpAny_callSpecialIfBoundUnlessNone?_slot hT lU (cD lU hT F.entry_tuple_hash ?_ (F.args_tuple_hash_1 _)));show aG _ _ (Builtin.Tuple.tupleItemsOf (.ref a) >>= _) _ _ s;refine ab (wpAny_tupleItemsOf ho hd ?_);refine ab ?_;rw[<-nQ];refine a4p ds (A:=A.in1) (acc:=#[]) hk (by show A.units+1+_<_;lia) hi ?_;show aG _ _ (retInt (eV _)) _ _ _;simp only[nh,cA];refine uw ?_;show aG _ _ (if (decide (-(2:Int)^63<=eV (B5 ds))&&decide (eV (B5 ds)<2^63))=rp then _ else _) Q E _;unfold reduceHash at h;by_cases hr:(decide (-(2:Int)^63<=eV (B5 ds))&&decide (eV (B5 ds)<2^63))=rp
   ·rw[aC hr];rw[aC hr]at h;exact ah (by simpa[nu]using h)
   ·rw[aI hr];rw[aI hr]at h;exact ab (gw (ah (by simpa[nu]using h)))
 |.none,_,_,_,_,_,h,_,_,_|.bool _,_,_,_,_,_,h,_,_,_|.str _,_,_,_,_,_,h,_,_,_|.list _,_,_,_,_,_,h,_,_,_|.dict _,_,_,_,_,_,h,_,_,_=>by simp only[C2]at h;cases h
theorem a4p:∀(ks:List D) {A:bL} {s:aq} {vs:List aj} {as:List au} {acc:Array Int} {Q:Array Int->aq->Prop},p8 ks=rp->A.units+dM ks<du->jz s.heap vs ks as->Q (acc++(B5 ks).toArray) {s with toks:=s.toks+Q1 ks}->
  aG (aT prog w) A (forIn vs acc λx r=>do let r1 <-pyHash x;pure lG;pure (dW (r.push r1))) Q E s
 |[],A,s,vs,as,acc,Q,_,_,r,h=>by
  cases r
  rw[ku];exact ah (by simpa[B5,Q1]using h)
 |k::ks,A,s,vs,as,acc,Q,hk,hu,r,h=>by
  simp only[p8,ar]at hk;simp only[dM]at hu;cases r with
  |cons r1 r2=>
   rw[jJ];refine ab (ab (a2N k hk.1 (by lia) r1 ?_));refine ab (ah (ah ?_));refine a4p ks (s:={s with toks:=s.toks+r9 k}) hk.2 (by lia) r2 ?_;simp only[B5,Q1]at h;have e:(acc.push (hashD k))++(B5 ks).toArray=acc++(hashD k::B5 ks).toArray:=by simp
   rw[e];simpa[nu]using h
end
end
section
variable {prog:bA}{w:bX}{A:bL}{E:aj->aq->Prop}
mutual
theorem a4q:∀(k:D) (n:Nat) {s:aq} {v:aj} {as:List au} {Q:Bool->aq->Prop},C2 k=rp->k.depth<=n->Reads s.heap v k as->Q rp s->aG (aT prog w) A (eqIsQuiet n v) Q E s
 |.int i,n,s,v,as,Q,_,_,r,h=>by
  cases r
  rw[eqIsQuiet_byValue n (v:=.int i _) rfl];exact ah h
 |.tuple ds,0,s,v,as,Q,_,hn,_,_=>by simp only[gk]at hn;lia
 |.tuple ds,n+1,s,v,as,Q,hk,hn,r,h=>by
  simp only[C2]at hk;simp only[gk]at hn;cases r with
  |@tuple a o items m _ as ho hc hd hi=>
   have hT:s.TypeIs (.ref a) "tuple":=⟨o,ho,hc⟩;unfold eqIsQuiet;refine ab (eu hT F.slot_tuple_eq.lookup ?_);show aG _ _ (isInstance (.ref a) (.type "tuple") >>= _) _ _ s;refine ab (ix hT isSubtype_tuple_tuple ?_);simp only[fH,bF,dw];refine ab (dZ ho hd ?_);refine ab ?_;show aG _ _ (forIn items _ _) _ _ s;rw[<-nQ];refine wpAny_forIn_list _ (λrest r s'=>r.1=p4/\s'=s/\∃ks bs,p8 ks=rp/\dM ks<=n/\(∀k∈ks,k∈ds)/\jz s.heap rest ks bs) _ ?_ ?_ _ _ ⟨rfl,rfl,ds,as,hk,by lia,λk hk=>hk,hi⟩
   ·rintro v rest r s' ⟨hr,rfl,ks,bs,k1,k2,k3,k4⟩;cases k4 with
    |@cons _ _ d' iY _ _ r1 r2=>
     simp only[p8,ar]at k1;simp only[dM]at k2;refine ab (a4r ds n hk (by lia) d' (k3 d' av) r1 ?_);simp only[fH,bF,dw];exact ah ⟨rfl,rfl,_,_,k1.2,by lia,λk hk=>k3 k (aw _ hk),r2⟩
   ·rintro⟨r1,r2⟩ s' ⟨hr,rfl,_⟩;simp only at hr;subst hr;exact ah h
 |.none,_,_,_,_,_,h,_,_,_|.bool _,_,_,_,_,_,h,_,_,_|.str _,_,_,_,_,_,h,_,_,_|.list _,_,_,_,_,_,h,_,_,_|.dict _,_,_,_,_,_,h,_,_,_=>by simp only[C2]at h;cases h
theorem a4r:∀(ds:List D) (n:Nat),p8 ds=rp->dM ds<=n->∀k∈ds,∀{s:aq} {v:aj} {as:List au} {Q:Bool->aq->Prop},Reads s.heap v k as->Q rp s->aG (aT prog w) A (eqIsQuiet n v) Q E s
 |[],n,_,_,k,hk,s,v,as,Q,r,h=>nomatch hk
 |d::ds,n,oA,hn,k,hk,s,v,as,Q,r,h=>by
  simp only[p8,ar]at oA;simp only[dM]at hn;rcases aF.mp hk with e|hk
  ·rw[e]at r;exact a4q d n oA.1 (by lia) r h
  ·exact a4r ds n oA.2 (by lia) k hk r h
end
end
noncomputable def a9N:DecidableEq D:=λa b=>Classical.propDecidable (a=b)
noncomputable def b1z(prog:bA)(w:bX):@HeapKind prog w D a9N:=
 letI:DecidableEq D:=a9N
 {
  is:=λh k a=>C2 k=rp/\k.depth<=7/\∃as,Reads h (.ref a) k as
  hash:=hashD
  draws:=r9
  room:=λA=>A.units+8<du
  inj:=λ⟨hx,_,_,r⟩ ⟨_,_,_,r'⟩=>SeqAt.Reads.unique _ _ _ _ _ (V4 _ hx) r r'
  keeps:=λ⟨hx,hd,_,r⟩ ho lY hs=>⟨hx,hd,_,a2M ho lY hs _ hx r⟩
  pyHash:=λhu ⟨hx,hd,_,r⟩ h=>a2N _ hx (by lia) r h
  eqBool:=λ{A E s x y a b Q} hu ⟨hx,hd,_,r⟩ ⟨hy,lY,_,r'⟩ h=>by
   refine SeqAt.eqAt_reads x y A s _ _ _ _ r r' (V4 _ hx) (V4 _ hy) (by have:=qE x.depth y.depth;lia) _ _ _ _ ?_;have e:aH x y=@decide (x=y) (a9N x y):=by
    by_cases c:x=y
    ·rw[@aE _ (a9N x y) c];exact (B6 x y hx hy).mpr c
    ·rw[@aW _ (a9N x y) c];cases q:aH x y with
     |false=>rfl
     |true=>exact absurd ((B6 x y hx hy).mp q) c
   rw[e];exact h
  quiet:=λ⟨hx,hd,_,r⟩ h=>a4q _ 8 hx (by lia) r h
 }
def M8(e:D×V×V)(x:eY):Prop:=x.hash=hashD e.1/\RelV e.2.1 x.key/\RelV e.2.2 x.val
def D8:List D->Bool
 |.tuple [.int 0]::_=>rp
 |_=>xn
abbrev D9(es:List (D×V×V)):Bool:=D8 (es.map (·.1))
def c6(a:au)(es:List (D×V×V)):HO:=.ext λh=>(a==df)=xn/\es.length<=aV/\(es.map (·.1)).Nodup/\∃o ents ep,h.get? a=cz o/\o.ExactDict/\o.data=.dict ents ep/\fB M8 es ents.toList/\(D9 es=xn->ep=es.length)
def Mu:HO->Prop
 |.lst _=>True
 |.dK _=>True
 |.ext _=>True
 |_=>False
abbrev MuO:={o:HO // Mu o}
def keyOk(kt:Bool)(k:D):Prop:=C2 k=rp/\k.depth<=7/\(kt=rp->∃ds,k=.tuple ds)/\(kt=xn->∃i,k=.int i)
end VS
namespace VS
open PySem L2
mutual
def imm:br->Bool
 |.none=>rp
 |.bool _=>rp
 |.int _=>rp
 |.str _=>rp
 |.list _=>xn
 |.tuple ds=>e7 ds
 |.dict _=>xn
def e7:List br->Bool
 |[]=>rp
 |d::ds=>imm d&&e7 ds
end
def SqX(K:ae)(H:Hp)(a:au)(xs:List V):Prop:=
 Rd H a (.lst xs)\/∃(cQ:List aj) (n:Nat),K.lookup a=cz {cls:=.type "list",data:=.seq cQ.toArray n}/\cQ.length<=aV/\Vals xs cQ
def SqX.l(h:SqX K H a xs):SqL K H a xs:=by
 rcases h with h|⟨cQ,n,h1,h2,h3⟩
 ·exact .inl h
 ·exact .inr ⟨_,cQ.toArray,n,h1,rfl,rfl,rfl,by simpa using h2,by simpa using h3⟩
theorem SqX.ok{X:Cx}(h:SqX X.K H a xs)(I:Inv X pins Y H s):xs.length<=aV/\∃(cQ:List aj) (n:Nat),Vals xs cQ/\s.heap.get? a=cz {cls:=.type "list",data:=.seq cQ.toArray n}:=by
 rcases h with h|⟨cQ,n,h1,h2,h3⟩
 ·exact h.ok I.hok
 ·exact⟨by rw[h3.length];exact h2,cQ,n,h3,I.kIn _ _ h1⟩
mutual
theorem V5:∀d:br,C2 d=rp->imm d=rp
 |.int _,_=>by simp only[imm]
 |.tuple ds,h=>by
  simp only[C2]at h;simp only[imm];exact a1O ds h
 |.none,h|.bool _,h|.str _,h|.list _,h|.dict _,h=>by simp only[C2]at h;cases h
theorem a1O:∀ds:List br,p8 ds=rp->e7 ds=rp
 |[],_=>by simp only[e7]
 |d::ds,h=>by
  simp only[p8,ar]at h;simp only[e7,ar];exact⟨V5 d h.1,a1O ds h.2⟩
end
mutual
def Den(K:ae)(H:Hp):V->br->Prop
 |v,.none=>v=.non
 |v,.bool b=>v=.bl b
 |v,.int i=>v=.int i
 |v,.str x=>v=.str x
 |v,.list ds=>∃a xs,v=.ref a/\SqX K H a xs/\DenAll K H xs ds
 |v,.tuple ds=>∃a xs,v=.ref a/\SqT K H a xs/\DenAll K H xs ds
 |v,.dict kvs=>∃a es,v=.ref a/\H a=cz (c6 a es)/\DenKV K H es kvs
def DenAll(K:ae)(H:Hp):List V->List br->Prop
 |xs,[]=>xs=[]
 |xs,d::ds=>∃v r,xs=v::r/\Den K H v d/\DenAll K H r ds
def DenKV(K:ae)(H:Hp):List (br×V×V)->List (br×br)->Prop
 |es,[]=>es=[]
 |es,(k,d)::r=>∃e q,es=e::q/\e.1=k/\Den K H e.2.1 k/\Den K H e.2.2 d/\DenKV K H q r
end
def Rd.up(h:Rd H a u)(e:Same H H'):Rd H' a u:=by
 rcases h with h|⟨o,h⟩
 ·exact .inl (e _ _ h)
 ·exact .inr ⟨o,e _ _ h⟩
def V6(h:SqX K H a xs)(e:Same H H'):SqX K H' a xs:=h.imp (λq=>Rd.up q e) id
def T6(h:SqT K H a xs)(e:Same H H'):SqT K H' a xs:=h.imp (λq=>Rd.up q e) id
mutual
theorem Den.mono{K:ae}{H H':Hp}(e:Same H H'):∀(d:br) {v:V},Den K H v d->Den K H' v d
 |.none,_,h=>by simpa only [Den]using h
 |.bool _,_,h=>by simpa only [Den]using h
 |.int _,_,h=>by simpa only [Den]using h
 |.str _,_,h=>by simpa only [Den]using h
 |.list ds,_,h=>by
  simp only[Den]at h ⊢;obtain⟨a,xs,h1,h2,h3⟩:=h;exact⟨a,xs,h1,V6 h2 e,DenAll.mono e ds h3⟩
 |.tuple ds,_,h=>by
  simp only[Den]at h ⊢;obtain⟨a,xs,h1,h2,h3⟩:=h;exact⟨a,xs,h1,T6 h2 e,DenAll.mono e ds h3⟩
 |.dict kvs,_,h=>by
  simp only[Den]at h ⊢;obtain⟨a,es,h1,h2,h3⟩:=h;exact⟨a,es,h1,e _ _ h2,DenKV.mono e kvs h3⟩
theorem DenAll.mono{K:ae}{H H':Hp}(e:Same H H'):∀(ds:List br) {xs:List V},DenAll K H xs ds->DenAll K H' xs ds
 |[],_,h=>by simpa only [DenAll]using h
 |d::ds,_,h=>by
  simp only[DenAll]at h ⊢;obtain⟨v,r,h1,h2,h3⟩:=h;exact⟨v,r,h1,Den.mono e d h2,DenAll.mono e ds h3⟩
theorem DenKV.mono(e:Same H H'):∀(kvs:List (br×br)) {es:List (br×V×V)},DenKV K H es kvs->DenKV K H' es kvs
 |[],_,h=>by simpa only [DenKV]using h
 | (k,d)::r,_,h=>by
  simp only[DenKV]at h ⊢;obtain⟨x,q,h1,h2,h3,h4,h5⟩:=h;exact⟨x,q,h1,h2,Den.mono e k h3,Den.mono e d h4,DenKV.mono e r h5⟩
end
section
variable {K:ae}{H H':Hp}
def Den.up{d:br}{v:V}(h:Den K H v d)(e:Same H H'):Den K H' v d:=Den.mono e d h
def DenAll.up{ds:List br}{xs:List V}(h:DenAll K H xs ds)(e:Same H H'):DenAll K H' xs ds:=DenAll.mono e ds h
def den_none:Den K H .non .none:=by simp only[Den]
def den_bool{b:Bool}:Den K H (.bl b) (.bool b):=by simp only[Den]
def den_int{i:Int}:Den K H (.int i) (.int i):=by simp only[Den]
def den_list{a:au}{xs:List V}{ds:List br}(h:SqX K H a xs)(q:DenAll K H xs ds):Den K H (.ref a) (.list ds):=by
 simp only[Den];exact⟨a,xs,rfl,h,q⟩
def den_tup{a:au}{xs:List V}{ds:List br}(h:SqT K H a xs)(q:DenAll K H xs ds):Den K H (.ref a) (.tuple ds):=by
 simp only[Den];exact⟨a,xs,rfl,h,q⟩
theorem a6n:∀{es:List (br×V×V)} {ds:List br},(∀e∈es,Den K H e.2.1 e.1)->DenAll K H (es.map (·.2.2)) ds->DenKV K H es ((es.map (·.1)).zip ds)
 |[],ds,_,h=>by
  cases ds with
  |nil=>simp only[cV,C_,DenKV]
  |cons d ds=>simp only[DenAll]at h;obtain⟨v,r,h1,_⟩:=h;cases h1
 |e::es,ds,hk,h=>by
  cases ds with
  |nil=>simp only[DenAll]at h;cases h
  |cons d ds=>
   simp only[DenAll]at h;obtain⟨v,r,h1,h2,h3⟩:=h;cases h1
   simp only[aA,eN,DenKV];exact⟨e,es,rfl,rfl,hk e av,h2,a6n (λe he=>hk e (aw _ he)) h3⟩
def a4s(h:H a=cz (c6 a es))(hk:∀e∈es,Den K H e.2.1 e.1)(hv:DenAll K H (es.map (·.2.2)) ds):Den K H (.ref a) (.dict ((es.map (·.1)).zip ds)):=by
 simp only[Den];exact⟨a,es,rfl,h,a6n hk hv⟩
def denAll_nil:DenAll K H [] []:=by simp only[DenAll]
def denAll_cons{v:V}{d:br}{xs:List V}{ds:List br}(h:Den K H v d)(q:DenAll K H xs ds):DenAll K H (v::xs) (d::ds):=by
 simp only[DenAll];exact⟨v,xs,rfl,h,q⟩
def Den.list_inv{v:V}{ds:List br}(h:Den K H v (.list ds)):∃a xs,v=.ref a/\SqX K H a xs/\DenAll K H xs ds:=by simpa only [Den]using h
def Den.tup_inv{v:V}{ds:List br}(h:Den K H v (.tuple ds)):∃a xs,v=.ref a/\SqT K H a xs/\DenAll K H xs ds:=by simpa only [Den]using h
def Den.dict_inv(h:Den K H v (.dict kvs)):∃a es,v=.ref a/\H a=cz (c6 a es)/\DenKV K H es kvs:=by simpa only [Den]using h
theorem DenKV.keys:∀{kvs:List (br×br)} {es:List (br×V×V)},DenKV K H es kvs->es.map (·.1)=kvs.map (·.1)
 |[],_,h=>by simp only[DenKV]at h;rw[h];rfl
 | (k,d)::r,_,h=>by
  simp only[DenKV]at h;obtain⟨e,q,rfl,h1,_,_,h2⟩:=h;rw[aA,aA,DenKV.keys h2,h1]
theorem DenKV.vals:∀{kvs:List (br×br)} {es:List (br×V×V)},DenKV K H es kvs->DenAll K H (es.map (·.2.2)) (kvs.map (·.2))
 |[],_,h=>by simp only[DenKV]at h;rw[h];simp only[cV,DenAll]
 | (k,d)::r,_,h=>by
  simp only[DenKV]at h;obtain⟨e,q,rfl,_,_,h1,h2⟩:=h;simp only[aA,DenAll];exact⟨_,_,rfl,h1,DenKV.vals h2⟩
theorem DenKV.kden:∀{kvs:List (br×br)} {es:List (br×V×V)},DenKV K H es kvs->∀e∈es,Den K H e.2.1 e.1
 |[],_,h,e,he=>by simp only[DenKV]at h;rw[h]at he;cases he
 | (k,d)::r,_,h,e,he=>by
  simp only[DenKV]at h;obtain⟨e0,q,rfl,h0,h1,_,h2⟩:=h;rcases aF.mp he with z|z
  ·subst z;rw[h0];exact h1
  ·exact DenKV.kden h2 e z
def Den.int_inv{v:V}{i:Int}(h:Den K H v (.int i)):v=.int i:=by simpa only [Den]using h
def Den.bool_inv(h:Den K H v (.bool b)):v=.bl b:=by simpa only [Den]using h
def Den.none_inv(h:Den K H v .none):v=.non:=by simpa only [Den]using h
def Den.str_inv(h:Den K H v (.str x)):v=.str x:=by simpa only [Den]using h
def DenAll.cons_inv{xs:List V}{d:br}{ds:List br}(h:DenAll K H xs (d::ds)):∃v r,xs=v::r/\Den K H v d/\DenAll K H r ds:=by simpa only [DenAll]using h
def DenAll.nil_inv{xs:List V}(h:DenAll K H xs []):xs=[]:=by simpa only [DenAll]using h
theorem DenAll.length:∀{ds:List br} {xs:List V},DenAll K H xs ds->xs.length=ds.length
 |[],_,h=>by rw[h.nil_inv];rfl
 |d::ds,_,h=>by
  obtain⟨v,r,rfl,_,h⟩:=h.cons_inv;rw[ba,ba,DenAll.length h]
theorem DenAll.get:∀{ds:List br} {xs:List V} {i:Nat} {d:br},DenAll K H xs ds->ds[i]?=cz d->∃v,xs[i]?=cz v/\Den K H v d
 |[],_,i,d,_,e=>by simp at e
 |d0::ds,_,0,d,h,e=>by
  obtain⟨v,r,rfl,h1,_⟩:=h.cons_inv;have:d0=d:=by simpa using e
  subst this;exact⟨v,rfl,h1⟩
 |d0::ds,_,i+1,d,h,e=>by
  obtain⟨v,r,rfl,_,h1⟩:=h.cons_inv;obtain⟨u,h2,h3⟩:=DenAll.get (i:=i) h1 (by simpa using e);exact⟨u,by simpa using h2,h3⟩
def DenAll.getV{ds:List br}{xs:List V}{i:Nat}{v:V}(h:DenAll K H xs ds)(e:xs[i]?=cz v):∃d,ds[i]?=cz d/\Den K H v d:=by
 have hi:=(aN.mp e).1;rw[h.length]at hi;obtain⟨u,h1,h2⟩:=h.get (ai hi);rw[e]at h1;cases h1
 exact⟨_,ai hi,h2⟩
theorem DenAll.append:∀{ds:List br} {xs:List V} {es:List br} {ys:List V},DenAll K H xs ds->DenAll K H ys es->DenAll K H (xs++ys) (ds++es)
 |[],_,_,_,h,q=>by rw[h.nil_inv];exact q
 |d::ds,_,_,_,h,q=>by
  obtain⟨v,r,rfl,h1,h2⟩:=h.cons_inv;exact denAll_cons h1 (DenAll.append h2 q)
theorem DenAll.take:∀{ds:List br} {xs:List V} (n:Nat),DenAll K H xs ds->DenAll K H (xs.take n) (ds.take n)
 |_,_,0,_=>by rw[rM,rM];exact denAll_nil
 |[],_,n+1,h=>by rw[h.nil_inv];exact denAll_nil
 |d::ds,_,n+1,h=>by
  obtain⟨v,r,rfl,h1,h2⟩:=h.cons_inv;exact denAll_cons h1 (DenAll.take n h2)
theorem DenAll.drop:∀{ds:List br} {xs:List V} (n:Nat),DenAll K H xs ds->DenAll K H (xs.drop n) (ds.drop n)
 |_,_,0,h=>h
 |[],_,n+1,h=>by rw[h.nil_inv];exact denAll_nil
 |d::ds,_,n+1,h=>by
  obtain⟨v,r,rfl,_,h2⟩:=h.cons_inv;exact DenAll.drop n h2
theorem DenAll.ints:∀(ns:List Int),DenAll K H (ns.map V.int) (ns.map aJ)
 |[]=>denAll_nil
 |n::ns=>denAll_cons den_int (DenAll.ints ns)
end
def cut(H:Hp)(F:List au):Hp:=λa=>if a∈F then p4 else H a
section
variable {H H':Hp}{F F':List au}{a:au}{o:HO}
def X3(h:a∉F):cut H F a=H a:=by unfold cut;rw[aI h]
def V7(h:a∈F):cut H F a=p4:=by unfold cut;rw[aC h]
def p5(h:cut H F a=cz o):a∉F/\H a=cz o:=by
 by_cases q:a∈F
 ·rw[V7 q]at h;cases h
 ·rw[X3 q]at h;exact⟨q,h⟩
def j5(h1:a∉F)(h2:H a=cz o):cut H F a=cz o:=by rw[X3 h1];exact h2
def i4:Same (cut H F) H:=λ_ _ h=>(p5 h).2
def M9(e:Same H H')(hF:∀a o,H a=cz o->a∈F'->a∈F):Same (cut H F) (cut H' F'):=λa o h=>by
 obtain⟨h1,h2⟩:=p5 h;exact j5 (λq=>h1 (hF a o h2 q)) (e _ _ h2)
def B7(e:Same H H'):Same (cut H F) (cut H' F):=M9 e λ_ _ _ q=>q
def F9(hF:∀a,a∈F'->a∈F):Same (cut H F) (cut H F'):=M9 (Same.refl H) λa _ _ q=>hF a q
def K7:cut H []=H:=by
 funext a
 exact X3 (by simp)
end
inductive Ty where
 |i|f|l (t:Ty)|tp (ts:List Ty)|d (kt:Bool) (t:Ty)
mutual
def Ty.shut:Ty->Bool
 |.i=>rp
 |.f=>xn
 |.l u=>u.shut
 |.tp us=>Ty.shutAll us
 |.d _ u=>u.shut
def Ty.shutAll:List Ty->Bool
 |[]=>rp
 |u::us=>u.shut&&Ty.shutAll us
end
def ListAll(R:V->br->List au->Prop):List V->List br->List au->Prop
 |xs,[],fp=>xs=[]/\fp=[]
 |xs,d::ds,fp=>∃v r f g,xs=v::r/\fp=f++g/\R v d f/\ListAll R r ds g
mutual
def Own(K:ae)(H:Hp)(F:List au):Ty->V->br->List au->Prop
 |.i,v,d,fp=>fp=[]/\imm d=rp/\Den K (cut H F) v d
 |.f,v,d,fp=>fp=[]/\Den K (cut H F) v d
 |.l u,v,d,fp=>(fp=[]/\imm d=rp/\Den K (cut H F) v d)\/∃a xs ds fs,v=.ref a/\H a=cz (.lst xs)/\d=.list ds/\fp=a::fs/\ListAll (Own K H F u) xs ds fs
 |.tp us,v,d,fp=>∃a xs ds,v=.ref a/\H a=cz (.tup xs)/\a∉F/\d=.tuple ds/\OwnTs K H F us xs ds fp
 |.d kt u,v,d,fp=>∃a es ds fs,v=.ref a/\H a=cz (c6 a es)/\d=.dict ((es.map (·.1)).zip ds)/\fp=a::fs/\((es.map (·.1)).Nodup/\∀e∈es,keyOk kt e.1/\Den K (cut H F) e.2.1 e.1)/\ListAll (Own K H F u) (es.map (·.2.2)) ds fs
def OwnTs(K:ae)(H:Hp)(F:List au):List Ty->List V->List br->List au->Prop
 |[],xs,ds,fp=>xs=[]/\ds=[]/\fp=[]
 |u::us,xs,ds,fp=>∃v r d e f g,xs=v::r/\ds=d::e/\fp=f++g/\Own K H F u v d f/\OwnTs K H F us r e g
end
section
variable {R R':V->br->List au->Prop}
def l7:ListAll R [] [] []:=by simp only[ListAll];exact⟨trivial,trivial⟩
def l0(h:R v d f)(q:ListAll R xs ds g):ListAll R (v::xs) (d::ds) (f++g):=by
 simp only[ListAll];exact⟨v,xs,f,g,rfl,rfl,h,q⟩
def ListAll.nil_inv(h:ListAll R xs [] fp):xs=[]/\fp=[]:=by simpa only [ListAll]using h
def ListAll.cons_inv(h:ListAll R xs (d::ds) fp):∃v r f g,xs=v::r/\fp=f++g/\R v d f/\ListAll R r ds g:=by simpa only [ListAll]using h
theorem ListAll.length:∀{ds:List br} {xs:List V} {fp:List au},ListAll R xs ds fp->xs.length=ds.length
 |[],_,_,h=>by rw[h.nil_inv.1];rfl
 |d::ds,_,_,h=>by
  obtain⟨v,r,f,g,rfl,_,_,h⟩:=h.cons_inv;rw[ba,ba,ListAll.length h]
theorem ListAll.imp:∀{ds:List br} {xs:List V} {fp:List au},ListAll R xs ds fp->(∀v d f,(∀a∈f,a∈fp)->d∈ds->R v d f->R' v d f)->ListAll R' xs ds fp
 |[],_,_,h,_=>by obtain⟨rfl,rfl⟩:=h.nil_inv;exact l7
 |d::ds,_,_,h,q=>by
  obtain⟨v,r,f,g,rfl,rfl,h1,h2⟩:=h.cons_inv;exact l0 (q v d f (λa ha=>aO _ ha) av h1) (ListAll.imp h2 λv d f' hf hd hR=>q v d f' (λa ha=>ax _ (hf a ha)) (aw _ hd) hR)
theorem ListAll.append:∀{ds es:List br} {xs ys:List V} {fp gp:List au},ListAll R xs ds fp->ListAll R ys es gp->ListAll R (xs++ys) (ds++es) (fp++gp)
 |[],_,_,_,_,_,h,q=>by obtain⟨rfl,rfl⟩:=h.nil_inv;exact q
 |d::ds,_,_,_,_,_,h,q=>by
  obtain⟨v,r,f,g,rfl,rfl,h1,h2⟩:=h.cons_inv;rw[bg];exact l0 h1 (ListAll.append h2 q)
theorem ListAll.at_:∀{ds:List br} {xs:List V} {fp:List au} {k:Nat} {d:br},ListAll R xs ds fp->ds[k]?=cz d->
  ∃v f pre post,xs[k]?=cz v/\R v d f/\fp=pre++(f++post)/\ListAll R (xs.take k) (ds.take k) pre/\ListAll R (xs.drop (k+1)) (ds.drop (k+1)) post
 |[],_,_,k,d,_,e=>by simp at e
 |d0::ds,_,_,0,d,h,e=>by
  obtain⟨v,r,f,g,rfl,rfl,h1,h2⟩:=h.cons_inv;have:d0=d:=by simpa using e
  subst this;exact⟨v,f,[],g,rfl,h1,rfl,l7,h2⟩
 |d0::ds,_,_,k+1,d,h,e=>by
  obtain⟨v,r,f,g,rfl,rfl,h1,h2⟩:=h.cons_inv;obtain⟨u,f',pre,post,e1,e2,e3,e4,e5⟩:=ListAll.at_ (k:=k) h2 (by simpa using e);subst e3;exact⟨u,f',f++pre,post,by simpa using e1,e2,by rw[bg],l0 h1 e4,e5⟩
end
section
variable {K:ae}{H H':Hp}{F F':List au}
theorem ListAll.den(hR:∀v d f,R v d f->Den K H v d):∀{ds:List br} {xs:List V} {fp:List au},ListAll R xs ds fp->DenAll K H xs ds
 |[],_,_,h=>by rw[h.nil_inv.1];exact denAll_nil
 |d::ds,_,_,h=>by
  obtain⟨v,r,f,g,rfl,_,h1,h2⟩:=h.cons_inv;exact denAll_cons (hR _ _ _ h1) (ListAll.den hR h2)
mutual
theorem Own.den:∀(u:Ty) {v:V} {d:br} {fp:List au},Own K H F u v d fp->Den K H v d
 |.i,_,_,_,h=>by simp only[Own]at h;exact h.2.2.up i4
 |.f,_,_,_,h=>by simp only[Own]at h;exact h.2.up i4
 |.l u,_,_,_,h=>by
  simp only[Own]at h;rcases h with⟨_,_,h⟩|⟨a,xs,ds,fs,rfl,h1,rfl,_,h2⟩
  ·exact h.up i4
  ·exact den_list (.inl (.inl h1)) (ListAll.den (λv d f q=>Own.den u q) h2)
 |.tp us,_,_,_,h=>by
  simp only[Own]at h;obtain⟨a,xs,ds,rfl,h1,_,rfl,h2⟩:=h;exact den_tup (SqT.of h1) (OwnTs.den us h2)
 |.d kt u,_,_,_,h=>by
  simp only[Own]at h;obtain⟨a,es,ds,fs,rfl,h1,rfl,_,h3,h2⟩:=h;exact a4s h1 (λe he=>(h3.2 e he).2.up i4) (ListAll.den (λv d f q=>Own.den u q) h2)
theorem OwnTs.den:∀(us:List Ty) {xs:List V} {ds:List br} {fp:List au},OwnTs K H F us xs ds fp->DenAll K H xs ds
 |[],_,_,_,h=>by simp only[OwnTs]at h;obtain⟨rfl,rfl,_⟩:=h;exact denAll_nil
 |u::us,_,_,_,h=>by
  simp only[OwnTs]at h;obtain⟨v,r,d,e,f,g,rfl,rfl,_,h1,h2⟩:=h;exact denAll_cons (Own.den u h1) (OwnTs.den us h2)
end
mutual
theorem Own.frame(e:Same (cut H F) (cut H' F')):∀(u:Ty) {v:V} {d:br} {fp:List au},Own K H F u v d fp->(∀a∈fp,H' a=H a)->Own K H' F' u v d fp
 |.i,_,_,_,h,_=>by simp only[Own]at h ⊢;exact⟨h.1,h.2.1,h.2.2.up e⟩
 |.f,_,_,_,h,_=>by simp only[Own]at h ⊢;exact⟨h.1,h.2.up e⟩
 |.l u,_,_,_,h,k=>by
  simp only[Own]at h ⊢;rcases h with⟨h1,h2,h⟩|⟨a,xs,ds,fs,rfl,h1,rfl,rfl,h2⟩
  ·exact .inl ⟨h1,h2,h.up e⟩
  ·exact .inr ⟨a,xs,ds,fs,rfl,(k a av).trans h1,rfl,rfl,h2.imp λv d f hf _ q=>Own.frame e u q λb hb=>k b (aw _ (hf b hb))⟩
 |.tp us,_,_,_,h,k=>by
  simp only[Own]at h ⊢;obtain⟨a,xs,ds,rfl,h1,h0,rfl,h2⟩:=h;obtain⟨h3,h4⟩:=p5 (e a _ (j5 h0 h1));exact⟨a,xs,ds,rfl,h4,h3,rfl,OwnTs.frame e us h2 k⟩
 |.d kt u,_,_,_,h,k=>by
  simp only[Own]at h ⊢;obtain⟨a,es,ds,fs,rfl,h1,rfl,rfl,h3,h2⟩:=h;exact⟨a,es,ds,fs,rfl,(k a av).trans h1,rfl,rfl,⟨h3.1,λx hx=>⟨(h3.2 x hx).1,(h3.2 x hx).2.up e⟩⟩,h2.imp λv d f hf _ q=>Own.frame e u q λb hb=>k b (aw _ (hf b hb))⟩
theorem OwnTs.frame(e:Same (cut H F) (cut H' F')):∀(us:List Ty) {xs:List V} {ds:List br} {fp:List au},OwnTs K H F us xs ds fp->(∀a∈fp,H' a=H a)->OwnTs K H' F' us xs ds fp
 |[],_,_,_,h,_=>by simpa only [OwnTs]using h
 |u::us,_,_,_,h,k=>by
  simp only[OwnTs]at h ⊢;obtain⟨v,r,d,e',f,g,rfl,rfl,rfl,h1,h2⟩:=h;exact⟨v,r,d,e',f,g,rfl,rfl,rfl,Own.frame e u h1 λa ha=>k a (aO _ ha),OwnTs.frame e us h2 λa ha=>k a (ax _ ha)⟩
end
theorem ListAll.lst{u:Ty}{R:V->br->List au->Prop}(hR:∀v d f,R v d f->∀a∈f,∃ys:MuO,H a=cz ys.1):∀{ds:List br} {xs:List V} {fp:List au},ListAll R xs ds fp->∀a∈fp,∃ys:MuO,H a=cz ys.1
 |[],_,_,h,a,ha=>by rw[h.nil_inv.2]at ha;cases ha
 |d::ds,_,_,h,a,ha=>by
  obtain⟨v,r,f,g,rfl,rfl,h1,h2⟩:=h.cons_inv;rcases az.mp ha with z|z
  ·exact hR _ _ _ h1 a z
  ·exact ListAll.lst (u:=u) hR h2 a z
mutual
theorem Own.lst:∀(u:Ty) {v:V} {d:br} {fp:List au},Own K H F u v d fp->∀a∈fp,∃ys:MuO,H a=cz ys.1
 |.i,_,_,_,h,a,ha=>by simp only[Own]at h;rw[h.1]at ha;cases ha
 |.f,_,_,_,h,a,ha=>by simp only[Own]at h;rw[h.1]at ha;cases ha
 |.l u,_,_,_,h,b,hb=>by
  simp only[Own]at h;rcases h with⟨h1,_⟩|⟨a,xs,ds,fs,rfl,h1,rfl,rfl,h2⟩
  ·rw[h1]at hb;cases hb
  ·rcases aF.mp hb with z|z
   ·subst z;exact⟨⟨.lst xs,trivial⟩,h1⟩
   ·exact ListAll.lst (u:=u) (λv d f q=>Own.lst u q) h2 b z
 |.tp us,_,_,_,h,b,hb=>by
  simp only[Own]at h;obtain⟨a,xs,ds,rfl,h1,_,rfl,h2⟩:=h;exact OwnTs.lst us h2 b hb
 |.d kt u,_,_,_,h,b,hb=>by
  simp only[Own]at h;obtain⟨a,es,ds,fs,rfl,h1,rfl,rfl,h3,h2⟩:=h;rcases aF.mp hb with z|z
  ·subst z;exact⟨⟨c6 b es,trivial⟩,h1⟩
  ·exact ListAll.lst (u:=u) (λv d f q=>Own.lst u q) h2 b z
theorem OwnTs.lst:∀(us:List Ty) {xs:List V} {ds:List br} {fp:List au},OwnTs K H F us xs ds fp->∀a∈fp,∃ys:MuO,H a=cz ys.1
 |[],_,_,_,h,a,ha=>by simp only[OwnTs]at h;rw[h.2.2]at ha;cases ha
 |u::us,_,_,_,h,b,hb=>by
  simp only[OwnTs]at h;obtain⟨v,r,d,e,f,g,rfl,rfl,rfl,h1,h2⟩:=h;rcases az.mp hb with z|z
  ·exact Own.lst u h1 b z
  ·exact OwnTs.lst us h2 b z
end
def b4p(h:SqT K H a xs)(hF:∀a∈F,∃ys:MuO,H a=cz ys.1):SqT K (cut H F) a xs:=by
 rcases h with (h|⟨o,h⟩)|h
 ·refine .inl (.inl (j5 (λq=>?_) h));obtain⟨⟨ys,my⟩,e⟩:=hF a q;rw[h]at e;have e':=aK e;rw[show ys=_ from e'.symm]at my;exact my
 ·refine .inl (.inr ⟨o,j5 (λq=>?_) h⟩);obtain⟨⟨ys,my⟩,e⟩:=hF a q;rw[h]at e;have e':=aK e;rw[show ys=_ from e'.symm]at my;exact my
 ·exact .inr h
mutual
theorem Den.imm_out(hF:∀a∈F,∃ys:MuO,H a=cz ys.1):∀(d:br) {v:V},imm d=rp->Den K H v d->Den K (cut H F) v d
 |.none,_,_,h=>by simpa only [Den]using h
 |.bool _,_,_,h=>by simpa only [Den]using h
 |.int _,_,_,h=>by simpa only [Den]using h
 |.str _,_,_,h=>by simpa only [Den]using h
 |.list ds,_,q,_=>by simp only[imm]at q;cases q
 |.tuple ds,_,q,h=>by
  simp only[imm]at q;obtain⟨a,xs,rfl,h1,h2⟩:=h.tup_inv;exact den_tup (b4p h1 hF) (DenAll.imm_out hF ds q h2)
 |.dict _,_,q,_=>by simp only[imm]at q;cases q
theorem DenAll.imm_out(hF:∀a∈F,∃ys:MuO,H a=cz ys.1):∀(ds:List br) {xs:List V},e7 ds=rp->DenAll K H xs ds->DenAll K (cut H F) xs ds
 |[],_,_,h=>by simpa only [DenAll]using h
 |d::ds,_,q,h=>by
  simp only[e7,ar]at q;obtain⟨v,r,rfl,h1,h2⟩:=h.cons_inv;exact denAll_cons (Den.imm_out hF d q.1 h1) (DenAll.imm_out hF ds q.2 h2)
end
mutual
theorem Own.shut_out(hF:∀a∈F',∃ys:MuO,H a=cz ys.1):∀(u:Ty) {v:V} {d:br} {fp:List au},u.shut=rp->Own K H F u v d fp->Own K H F' u v d fp
 |.i,_,_,_,_,h=>by simp only[Own]at h ⊢;exact⟨h.1,h.2.1,(h.2.2.up i4).imm_out hF _ h.2.1⟩
 |.f,_,_,_,q,h=>by simp only[Ty.shut]at q;cases q
 |.l u,_,_,_,q,h=>by
  simp only[Ty.shut]at q;simp only[Own]at h ⊢;rcases h with⟨h1,h2,h⟩|⟨a,xs,ds,fs,rfl,h1,rfl,rfl,h2⟩
  ·exact .inl ⟨h1,h2,(h.up i4).imm_out hF _ h2⟩
  ·exact .inr ⟨a,xs,ds,fs,rfl,h1,rfl,rfl,h2.imp λv d f _ _ z=>Own.shut_out hF u q z⟩
 |.tp us,_,_,_,q,h=>by
  simp only[Ty.shut]at q;simp only[Own]at h ⊢;obtain⟨a,xs,ds,rfl,h1,h0,rfl,h2⟩:=h;refine⟨a,xs,ds,rfl,h1,λz=>?_,rfl,OwnTs.shut_out hF us q h2⟩;obtain⟨⟨ys,my⟩,e⟩:=hF a z;rw[h1]at e;have e':=aK e;rw[show ys=_ from e'.symm]at my;exact my
 |.d kt u,_,_,_,q,h=>by
  simp only[Ty.shut]at q;simp only[Own]at h ⊢;obtain⟨a,es,ds,fs,rfl,h1,rfl,rfl,h3,h2⟩:=h;exact⟨a,es,ds,fs,rfl,h1,rfl,rfl,⟨h3.1,λx hx=>⟨(h3.2 x hx).1,((h3.2 x hx).2.up i4).imm_out hF _ (V5 _ (h3.2 x hx).1.1)⟩⟩,h2.imp λv d f _ _ z=>Own.shut_out hF u q z⟩
theorem OwnTs.shut_out(hF:∀a∈F',∃ys:MuO,H a=cz ys.1):∀(us:List Ty) {xs:List V} {ds:List br} {fp:List au},Ty.shutAll us=rp->OwnTs K H F us xs ds fp->OwnTs K H F' us xs ds fp
 |[],_,_,_,_,h=>by simpa only [OwnTs]using h
 |u::us,_,_,_,q,h=>by
  simp only[Ty.shutAll,ar]at q;simp only[OwnTs]at h ⊢;obtain⟨v,r,d,e,f,g,rfl,rfl,rfl,h1,h2⟩:=h;exact⟨v,r,d,e,f,g,rfl,rfl,rfl,Own.shut_out hF u q.1 h1,OwnTs.shut_out hF us q.2 h2⟩
end
end
end VS
namespace VS
open PySem PySem.Spec L2
open SeqAt in
def items_eqAt{A:bL}{s:aq}{us ws:Array aj}(ra:jz s.heap us.toList xs as)(rb:jz s.heap ws.toList ys bs)(ha:bp xs=rp)(hb:bp ys=rp)
  (hu:A.in1.units+min (dM xs) (dM ys)<du):∀(k:Nat) (k1:k<us.size) (k2:k<ws.size),EqAt A.in1 s us[k] ws[k] (pairEq xs ys k):=λk k1 k2=>
 eqAt_readsAll xs ys A.in1 s us.toList ws.toList as bs ra rb ha hb hu k k1 k2
open SeqAt in
def a7J{A:bL}{s:aq}(ra:Reads s.heap a da as)(rb:Reads s.heap b db bs)(ha:da.canLay0=rp)(hb:db.canLay0=rp)
  (hu:A.units+min da.depth db.depth<du):RcNeAt A s a b (!aH da db):=by
 have u0:=room_here hu;cases ra with
 |dict=>exact nomatch ha
 |none=>cases rb with
  |dict=>exact nomatch hb
  |none=>exact RcNeAt.none_none
  |bool y=>exact RcNeAt.none_bool y
  |int y v=>exact RcNeAt.none_int y v
  |str y v=>exact RcNeAt.none_str y v
  |list c1 c2 c3 c4=>exact RcNeAt.none_list ⟨_,c1,c2,_,c3⟩ u0
  |tuple c1 c2 c3 c4=>exact RcNeAt.none_tuple ⟨_,c1,c2,_,c3⟩ u0
 |bool x=>cases rb with
  |dict=>exact nomatch hb
  |none=>exact RcNeAt.bool_none x
  |bool y=>exact RcNeAt.bool_bool x y
  |int y v=>exact RcNeAt.bool_int x y v
  |str y v=>exact RcNeAt.bool_str x y v
  |list c1 c2 c3 c4=>exact RcNeAt.bool_list x ⟨_,c1,c2,_,c3⟩ u0
  |tuple c1 c2 c3 c4=>exact RcNeAt.bool_tuple x ⟨_,c1,c2,_,c3⟩ u0
 |int x t=>cases rb with
  |dict=>exact nomatch hb
  |none=>exact RcNeAt.int_none x t
  |bool y=>exact RcNeAt.int_bool x t y
  |int y v=>exact RcNeAt.int_int x t y v
  |str y v=>exact RcNeAt.int_str x t y v
  |list c1 c2 c3 c4=>exact RcNeAt.int_list x t ⟨_,c1,c2,_,c3⟩ u0
  |tuple c1 c2 c3 c4=>exact RcNeAt.int_tuple x t ⟨_,c1,c2,_,c3⟩ u0
 |str x t=>cases rb with
  |dict=>exact nomatch hb
  |none=>exact RcNeAt.str_none x t
  |bool y=>exact RcNeAt.str_bool x t y
  |int y v=>exact RcNeAt.str_int x t y v
  |str y v=>exact RcNeAt.str_str x t y v
  |list c1 c2 c3 c4=>exact RcNeAt.str_list x t ⟨_,c1,c2,_,c3⟩ u0
  |tuple c1 c2 c3 c4=>exact RcNeAt.str_tuple x t ⟨_,c1,c2,_,c3⟩ u0
 |@list la oa us na xs fa c1 c2 c3 c4=>
  have sa:s.heap.IsList la us:=⟨oa,c1,c2,na,c3⟩;cases rb with
  |dict=>exact nomatch hb
  |none=>exact RcNeAt.list_none sa u0
  |bool y=>exact RcNeAt.list_bool y sa u0
  |int y v=>exact RcNeAt.list_int y v sa u0
  |str y v=>exact RcNeAt.list_str y v sa u0
  |tuple e1 e2 e3 e4=>exact RcNeAt.list_tuple sa ⟨_,e1,e2,_,e3⟩ u0
  |@list lb ob ws nb ys fb e1 e2 e3 e4=>
   have sb:s.heap.IsList lb ws:=⟨ob,e1,e2,nb,e3⟩;have z1:us.size=xs.length:=by simpa using pX xs _ _ c4
   have z2:ws.size=ys.length:=by simpa using pX ys _ _ e4
   have pr:=items_eqAt c4 e4 ha hb (room_in hu);show RcNeAt A s (.ref la) (.ref lb) (!cR xs ys);by_cases z:us.size=ws.size
   ·rw[<-eqvAll_same_length (show xs.length=ys.length by lia),<-z1];exact RcNeAt.lists sa sb z u0 pr
   ·rw[eqvAll_other_length (show xs.length≠ys.length by lia)];exact RcNeAt.lists_lengths sa sb (bne_iff_ne.mpr z) u0
 |@tuple la oa us na xs fa c1 c2 c3 c4=>
  have sa:s.heap.IsTuple la us:=⟨oa,c1,c2,na,c3⟩;cases rb with
  |dict=>exact nomatch hb
  |none=>exact RcNeAt.tuple_none sa u0
  |bool y=>exact RcNeAt.tuple_bool y sa u0
  |int y v=>exact RcNeAt.tuple_int y v sa u0
  |str y v=>exact RcNeAt.tuple_str y v sa u0
  |list e1 e2 e3 e4=>exact RcNeAt.tuple_list sa ⟨_,e1,e2,_,e3⟩ u0
  |@tuple lb ob ws nb ys fb e1 e2 e3 e4=>
   have sb:s.heap.IsTuple lb ws:=⟨ob,e1,e2,nb,e3⟩;have z1:us.size=xs.length:=by simpa using pX xs _ _ c4
   have z2:ws.size=ys.length:=by simpa using pX ys _ _ e4
   have pr:=items_eqAt c4 e4 ha hb (room_in hu);show RcNeAt A s (.ref la) (.ref lb) (!cR xs ys);rw[<-eqvAll_eq xs ys,<-z1,<-z2];exact RcNeAt.tuples sa sb u0 pr
mutual
theorem Den.reads{X:Cx}{pins:List (au×gE)}{Y:St}{H:Hp}{s:aq}(I:Inv X pins Y H s):∀(d:br) {v:V} {u:aj},d.canLay0=rp->Den X.K H v d->RelV v u->∃as,Reads s.heap u d as
 |.none,v,u,_,q,r=>by
  cases q.none_inv
  cases (show u=bb from r)
  exact⟨_,.none⟩
 |.bool b,v,u,_,q,r=>by
  cases q.bool_inv
  cases (show u=jW b from r)
  exact⟨_,.bool b⟩
 |.int i,v,u,_,q,r=>by
  cases q.int_inv
  obtain⟨t,rfl⟩:=r;exact⟨_,.int i t⟩
 |.str x,v,u,_,q,r=>by
  cases q.str_inv
  obtain⟨t,rfl⟩:=r;exact⟨_,.str x t⟩
 |.list ds,v,u,hl,q,r=>by
  obtain⟨a,xs,rfl,h1,h2⟩:=q.list_inv;cases (show u=be a from r)
  obtain⟨z,cQ,n,rv,e⟩:=h1.ok I;obtain⟨as,ra⟩:=DenAll.reads I ds hl h2 rv;exact⟨_,.list e rfl rfl (by simpa using ra)⟩
 |.tuple ds,v,u,hl,q,r=>by
  obtain⟨a,xs,rfl,h1,h2⟩:=q.tup_inv;cases (show u=be a from r)
  obtain⟨cQ,rv,⟨o,e,c,n,d⟩,_⟩:=I.tuple h1;obtain⟨as,ra⟩:=DenAll.reads I ds hl h2 rv;exact⟨_,.tuple e c d (by simpa using ra)⟩
 |.dict _,_,_,hl,_,_=>nomatch hl
theorem DenAll.reads{X:Cx}{pins:List (au×gE)}{Y:St}{H:Hp}{s:aq}(I:Inv X pins Y H s):∀(ds:List br) {xs:List V} {us:List aj},bp ds=rp->DenAll X.K H xs ds->Vals xs us->∃as,jz s.heap us ds as
 |[],xs,us,_,q,r=>by
  cases q.nil_inv
  cases r
  exact⟨_,.nil⟩
 |d::ds,xs,us,hl,q,r=>by
  have qz:d.canLay0=rp/\bp ds=rp:=by simpa[bp]using hl
  obtain⟨v,rs,rfl,h1,h2⟩:=q.cons_inv;cases r with
  |cons r1 r2=>
   obtain⟨as,ra⟩:=Den.reads I d qz.1 h1 r1;obtain⟨bs,rb⟩:=DenAll.reads I ds qz.2 h2 r2;exact⟨_,.cons ra rb⟩
end
def OpS(X:Cx)(f:aj->aj->yK aj)(g:D->D->Option D):Prop:=
 ∃r,OpR X f r/\∀(x y:V) (H:Hp) (a b d:D) (Q:VK),Den X.K H x a->Den X.K H y b->g a b=cz d->(∀v,imm d=rp->(∀H',Den X.K H' v d)->Q v H)->r x y H Q
def b1A(X:Cx)(f:aj)(g:List D->Option D):Prop:=
 ∃r,CallR X f r/\∀(xs:List V) (H:Hp) (ds:List D) (d:D) (Q:VK),DenAll X.K H xs ds->g ds=cz d->(∀v,imm d=rp->(∀H',Den X.K H' v d)->Q v H)->r xs H Q
def d2I(p:Int->Int->Bool)(g:Int->Int->D):D->D->Option D
 |.int a,.int b=>if p a b then cz (g a b) else p4
 |_,_=>p4
def a2O(h:d2I p g a b=cz d):∃i j,a=.int i/\b=.int j/\p i j=rp/\d=g i j:=by
 cases a with
 |int i=>
  cases b with
  |int j=>
   have h':(if p i j=rp then cz (g i j) else p4)=cz d:=h;by_cases c:p i j=rp
   ·rw[aC c]at h';exact⟨i,j,rfl,rfl,c,(aK h').symm⟩
   ·rw[aI c]at h';cases h'
  |_=>cases h
 |_=>cases h
def pT:Int->Int->Bool:=λ_ _=>rp
abbrev w9:D->D->Option D:=d2I pT λa b=>.int (a+b)
abbrev a1j:D->D->Option D:=d2I pT λa b=>.int (a-b)
def a9O(a b:Int):Bool:=decide (a.natAbs<2^64)||decide (b.natAbs<2^64)
abbrev N0:D->D->Option D:=d2I a9O λa b=>.int (a*b)
def b7c(_ b:Int):Bool:=decide (0<b)
abbrev F6:D->D->Option D:=d2I b7c λa b=>.int (a % b)
def b4q(_ b:Int):Bool:=decide (0<b)&&decide (b<1073741824)
abbrev a0z:D->D->Option D:=d2I b4q λa b=>.int (a / b)
def b4r(a b:Int):Bool:=decide (0<=b)&&decide (b<=1000000)&&decide (a.natAbs<2^64)
abbrev a5q:D->D->Option D:=d2I b4r λa b=>.int (a^b.toNat)
abbrev dLt:D->D->Option D:=d2I pT λa b=>.bool (decide (a<b))
abbrev dLe:D->D->Option D:=d2I pT λa b=>.bool (decide (a<=b))
abbrev dGt:D->D->Option D:=d2I pT λa b=>.bool (decide (b<a))
abbrev dGe:D->D->Option D:=d2I pT λa b=>.bool (decide (b<=a))
def a9P(neg:Bool)(a b:D):Option D:=if a.canLay0&&b.canLay0&&decide (a.depth<=60) then cz (.bool (neg !=aH a b)) else p4
abbrev dEq:D->D->Option D:=a9P xn
abbrev dNe:D->D->Option D:=a9P rp
def isN:D->Bool
 |.none=>rp
 |_=>xn
def Z2(neg:Bool)(a b:D):Option D:=if isN b then cz (.bool (neg !=isN a)) else p4
def c0S(neg:Bool):D->D->Option D
 |.bool a,.bool b=>cz (.bool (neg !=(a==b)))
 |_,_=>p4
section
variable {X:Cx}
def b4s{f:aj->aj->yK aj}{C:Int->Int->Prop}{p:Int->Int->Bool}{g:Int->Int->Int}(ho:OpR X f (rI C λi j=>.int (g i j)))(hp:∀i j,p i j=rp->C i j):OpS X f (d2I p λa b=>.int (g a b)):=by
 refine⟨_,ho,λx y H a b d Q ha hb hg q=>?_⟩;obtain⟨i,j,rfl,rfl,c,rfl⟩:=a2O hg;exact⟨i,j,ha.int_inv,hb.int_inv,hp i j c,q _ (by simp only[imm]) λ_=>den_int⟩
def b5Z{f:aj->aj->yK aj}{g:Int->Int->Int}(ho:OpR X f (rI0 λi j=>.int (g i j))):OpS X f (d2I pT λa b=>.int (g a b)):=by
 refine⟨_,ho,λx y H a b d Q ha hb hg q=>?_⟩;obtain⟨i,j,rfl,rfl,c,rfl⟩:=a2O hg;exact⟨i,j,ha.int_inv,hb.int_inv,q _ (by simp only[imm]) λ_=>den_int⟩
def a8O{f:aj->aj->yK aj}{g:Int->Int->Bool}(ho:OpR X f (rI0 λi j=>.bl (g i j))):OpS X f (d2I pT λa b=>.bool (g a b)):=by
 refine⟨_,ho,λx y H a b d Q ha hb hg q=>?_⟩;obtain⟨i,j,rfl,rfl,c,rfl⟩:=a2O hg;exact⟨i,j,ha.int_inv,hb.int_inv,q _ (by simp only[imm]) λ_=>den_bool⟩
def y7:OpS X (fA .Add) w9:=b5Z b6O
def T7:OpS X (fA .Sub) a1j:=b5Z b6P
def N1:OpS X (fA .Mult) N0:=b4s b6Q λi j h=>by
 unfold a9O at h;rw[iw]at h;rcases h with h|h
 ·have:=aR h;exact .inl ⟨by lia,by lia⟩
 ·have:=aR h;exact .inr ⟨by lia,by lia⟩
def v6:OpS X (fA .Mod) F6:=b4s b6R λi j h=>aR h
def P6:OpS X (fA .FloorDiv) a0z:=b4s b4a λi j h=>by
 unfold b4q at h;rw[ar]at h;exact⟨aR h.1,aR h.2⟩
def a2P:OpS X (fA .Pow) a5q:=b4s b6S λi j h=>by
 unfold b4r at h;rw[ar,ar]at h;exact⟨aR h.1.1,aR h.1.2,aR h.2⟩
def a6o:OpS X (bU .Lt) dLt:=a8O b9a
def b9j:OpS X (bU .LtE) dLe:=a8O b9b
def b1B:OpS X (bU .Gt) dGt:=a8O b9c
def b9k:OpS X (bU .GtE) dGe:=a8O b9d
def b7d(K:ae)(neg:Bool):R2:=λx y H Q=>∃d e,Den K H x d/\Den K H y e/\d.canLay0=rp/\e.canLay0=rp/\d.depth<=60/\Q (.bl (neg !=aH d e)) H
def b1C(hu:X.A.units+64<du):OpR X (bU .Eq) (b7d X.K xn):=by
 intro pins s Y H x y v u Q I rx ry h;obtain⟨d,e,h1,h2,c1,c2,hd,q⟩:=h;obtain⟨as,ra⟩:=Den.reads I d c1 h1 rx;obtain⟨bs,rb⟩:=Den.reads I e c2 h2 ry;refine SeqAt.compareEq_reads ra rb c1 c2 (by have:=qE d.depth e.depth;lia) ?_;exact⟨.bl _,H,I,rfl,by simpa using q⟩
def b1D(hu:X.A.units+64<du):OpR X (bU .NotEq) (b7d X.K rp):=by
 intro pins s Y H x y v u Q I rx ry h;obtain⟨d,e,h1,h2,c1,c2,hd,q⟩:=h;obtain⟨as,ra⟩:=Den.reads I d c1 h1 rx;obtain⟨bs,rb⟩:=Den.reads I e c2 h2 ry;refine a7J ra rb c1 c2 (by have:=qE d.depth e.depth;lia) _ _ _ _ ?_;exact⟨.bl _,H,I,rfl,by simpa using q⟩
def b1E(ho:OpR X f (b7d X.K neg)):OpS X f (a9P neg):=by
 refine⟨_,ho,λx y H a b d Q ha hb hg q=>?_⟩;unfold a9P at hg;by_cases c:(a.canLay0&&b.canLay0&&decide (a.depth<=60))=rp
 ·rw[aC c]at hg;cases hg
  rw[ar,ar]at c;exact⟨a,b,ha,hb,c.1.1,c.1.2,aR c.2,q _ (by simp only[imm]) λ_=>den_bool⟩
 ·rw[aI c]at hg;cases hg
def os_eq(hu:X.A.units+64<du):OpS X (bU .Eq) dEq:=b1E (b1C hu)
def b9l(hu:X.A.units+64<du):OpS X (bU .NotEq) dNe:=b1E (b1D hu)
def a5r(h:Den K H x a):decide (x=V.non)=isN a:=by
 cases a with
 |none=>rw[h.none_inv];rfl
 |bool b=>rw[h.bool_inv];rfl
 |int b=>rw[h.int_inv];rfl
 |str b=>rw[h.str_inv];rfl
 |list ds=>obtain⟨a,xs,rfl,_⟩:=h.list_inv;rfl
 |tuple ds=>obtain⟨a,xs,rfl,_⟩:=h.tup_inv;rfl
 |dict kvs=>
  obtain⟨a,es,rfl,_⟩:=h.dict_inv;rfl
def b1F:OpS X (bU .Is) (Z2 xn):=by
 refine⟨_,b6T,λx y H a b d Q ha hb hg q=>?_⟩;unfold Z2 at hg;by_cases c:isN b=rp
 ·rw[aC c]at hg;cases hg
  have e:=a5r hb;rw[c]at e;refine⟨aR e,?_⟩;rw[a5r ha];have:=q (.bl (xn !=isN a)) (by simp only[imm]) λ_=>den_bool
  simpa using this
 ·rw[aI c]at hg;cases hg
def a8P:OpS X (bU .IsNot) (Z2 rp):=by
 refine⟨_,b4b,λx y H a b d Q ha hb hg q=>?_⟩;unfold Z2 at hg;by_cases c:isN b=rp
 ·rw[aC c]at hg;cases hg
  have e:=a5r hb;rw[c]at e;refine⟨aR e,?_⟩;rw[a5r ha];have:=q (.bl (rp !=isN a)) (by simp only[imm]) λ_=>den_bool
  simpa using this
 ·rw[aI c]at hg;cases hg
end
inductive Md where
 |dead|own (u:Ty)|exc|keys (kt:Bool)|pin (v:V)|fn (Φ:Hp->V->Prop)
def ExcAt(a C:au):HO:=.ext λh=>∃o,h.get? a=cz o/\o.cls=.ref C
def SlotR(K:ae)(H:Hp)(F:List au)(m:Md)(o:Option V)(d:D)(f:List au):Prop:=
 match m with
 |.dead=>f=[]
 |.own u=>∃v,o=cz v/\Own K H F u v d f
 |.exc=>f=[]/\∃v,o=cz v/\((v=.non/\d=.none)\/∃a C n,v=.ref a/\d=.str n/\cut H F a=cz (ExcAt a C)/\gZ K bV n=cz (cz (.ref C)))
 |.keys kt=>f=[]/\∃a es kvs,o=cz (.ref a)/\d=.dict kvs/\cut H F a=cz (c6 a es)/\es.map (·.1)=kvs.map (·.1)/\∀e∈es,keyOk kt e.1/\Den K (cut H F) e.2.1 e.1
 |.pin v=>f=[]/\o=cz v
 |.fn Φ=>f=[]/\∃v,o=cz v/\∀H',Same (cut H F) H'->Φ H' v
def StAll(K:ae)(H:Hp)(F:List au):List Md->List D->L2.St->List au->Prop
 |[],U,Y,fp=>U=[]/\Y=[]/\fp=[]
 |m::M,U,Y,fp=>∃d U' o Y' f g,U=d::U'/\Y=o::Y'/\fp=f++g/\SlotR K H F m o d f/\StAll K H F M U' Y' g
section
variable {K:ae}{H H':Hp}{F F':List au}
theorem SlotR.frame(h:SlotR K H F m o d f)(e:Same (cut H F) (cut H' F'))(k:∀a∈f,H' a=H a):SlotR K H' F' m o d f:=by
 cases m with
 |dead=>exact h
 |own u=>
  obtain⟨v,rfl,h⟩:=h;exact⟨v,rfl,h.frame e u k⟩
 |exc=>
  obtain⟨h0,v,h1,h2⟩:=h;refine⟨h0,v,h1,h2.imp (λz=>z) λ⟨a,C,n,z1,z2,z3,z4⟩=>⟨a,C,n,z1,z2,e _ _ z3,z4⟩⟩
 |keys kt=>
  obtain⟨h0,a,es,kvs,h1,h2,h3,h4,h5⟩:=h;exact⟨h0,a,es,kvs,h1,h2,e _ _ h3,h4,λx hx=>⟨(h5 x hx).1,(h5 x hx).2.up e⟩⟩
 |pin v=>exact h
 |fn Φ=>obtain⟨h0,v,h1,h2⟩:=h;exact⟨h0,v,h1,λH2 e2=>h2 H2 (e.trans e2)⟩
def j9(h:SlotR K H F m o d f)(q:StAll K H F M U Y g):StAll K H F (m::M) (d::U) (o::Y) (f++g):=by
 simp only[StAll];exact⟨d,U,o,Y,f,g,rfl,rfl,rfl,h,q⟩
def L7:StAll K H F [] [] [] []:=by simp only[StAll];exact⟨trivial,trivial,trivial⟩
theorem StAll.frame:∀{M:List Md} {U:List D} {Y:L2.St} {fp:List au},StAll K H F M U Y fp->Same (cut H F) (cut H' F')->(∀a∈fp,H' a=H a)->StAll K H' F' M U Y fp
 |[],_,_,_,h,_,_=>by simpa only [StAll]using h
 |m::M,_,_,_,h,e,k=>by
  simp only[StAll]at h;obtain⟨d,U,o,Y,f,g,rfl,rfl,rfl,h1,h2⟩:=h;exact j9 (h1.frame e λa ha=>k a (aO _ ha)) (StAll.frame h2 e λa ha=>k a (ax _ ha))
theorem StAll.len:∀{M:List Md} {U:List D} {Y:L2.St} {fp:List au},StAll K H F M U Y fp->U.length=M.length/\Y.length=M.length
 |[],_,_,_,h=>by simp only[StAll]at h;obtain⟨rfl,rfl,_⟩:=h;exact⟨rfl,rfl⟩
 |m::M,_,_,_,h=>by
  simp only[StAll]at h;obtain⟨d,U,o,Y,f,g,rfl,rfl,rfl,_,h2⟩:=h;obtain⟨a,b⟩:=StAll.len h2;exact⟨by rw[ba,ba,a],by rw[ba,ba,b]⟩
theorem StAll.at_:∀{M:List Md} {U:List D} {Y:L2.St} {fp:List au} {i:Nat} {m:Md},StAll K H F M U Y fp->M[i]?=cz m->
  ∃d o f pre post,U[i]?=cz d/\Y[i]?=cz o/\SlotR K H F m o d f/\fp=pre++(f++post)/\
   ∀(H':Hp) (F':List au) (m':Md) (d':D) (o':Option V) (f':List au),(∀a∈pre++post,H' a=H a)->Same (cut H F) (cut H' F')->SlotR K H' F' m' o' d' f'->
    StAll K H' F' (M.set i m') (U.set i d') (Y.set i o') (pre++(f'++post))
 |[],_,_,_,i,m,_,e=>by simp at e
 |m0::M,_,_,_,0,m,h,e=>by
  simp only[StAll]at h;obtain⟨d,U,o,Y,f,g,rfl,rfl,rfl,h1,h2⟩:=h;have:m0=m:=by simpa using e
  subst this;refine⟨d,o,f,[],g,rfl,rfl,h1,rfl,λH' F' m' d' o' f' k e' s=>?_⟩;show StAll K H' F' (m'::M) (d'::U) (o'::Y) (f'++g);exact j9 s (h2.frame e' k)
 |m0::M,_,_,_,i+1,m,h,e=>by
  simp only[StAll]at h;obtain⟨d,U,o,Y,f,g,rfl,rfl,rfl,h1,h2⟩:=h;obtain⟨d1,o1,f1,pre,post,e1,e2,e3,e4,e5⟩:=StAll.at_ (i:=i) h2 (by simpa using e);subst e4;refine⟨d1,o1,f1,f++pre,post,by simpa using e1,by simpa using e2,e3,by rw[bg],λH' F' m' d' o' f' k e' s=>?_⟩;rw[bg];refine j9 (h1.frame e' λa ha=>k a ?_) (e5 H' F' m' d' o' f' (λa ha=>k a ?_) e' s)
  ·rw[bg];exact aO _ ha
  ·rw[bg];exact ax _ ha
end
structure StE (K:ae) (M:List Md) (U:List D) (Y:L2.St) (H P:Hp) (F:List au):Prop where
 all:∃G,StAll K H F M U Y G/\∀a∈G,a∈F
 lst:∀a∈F,∃ys:MuO,H a=cz ys.1
 prot:Same P (cut H F)
structure StR (K:ae) (M:List Md) (U:List D) (Y:L2.St) (H P:Hp) (F:List au):Prop where
 all:∃G,StAll K H F M U Y G/\G.Nodup/\∀a∈G,a∈F
 lst:∀a∈F,∃ys:MuO,H a=cz ys.1
 prot:Same P (cut H F)
section
variable {K:ae}{M:List Md}{U:List D}{Y:L2.St}{H H' P:Hp}{F:List au}
def StR.toE(h:StR K M U Y H P F):StE K M U Y H P F:=⟨let⟨G,a,_,b⟩:=h.all;⟨G,a,b⟩,h.lst,h.prot⟩
def StE.keep(h:StE K M U Y H P F)(e:Same H H'):∀a∈F,H' a=H a:=λa ha=>by
 obtain⟨ys,q⟩:=h.lst a ha;rw[q,e _ _ q]
def StE.lst'(h:StE K M U Y H P F)(e:Same H H'):∀a∈F,∃ys:MuO,H' a=cz ys.1:=λa ha=>by
 obtain⟨ys,q⟩:=h.lst a ha;exact⟨ys,e _ _ q⟩
def a0A(e:Same H H')(hf:∀a∈fp,H a=p4):Same (cut H F) (cut H' (fp++F)):=M9 e λa o ha mG=>by
 rcases az.mp mG with z|z
 ·rw[hf a z]at ha;cases ha
 ·exact z
def StE.more(h:StE K M U Y H P F)(e:Same H H')(hf:∀a∈fp,H a=p4)(hl:∀a∈fp,∃ys:MuO,H' a=cz ys.1):StE K M U Y H' P (fp++F):=by
 obtain⟨G,h1,h3⟩:=h.all;have hc:Same (cut H F) (cut H' (fp++F)):=a0A e hf;refine⟨⟨G,h1.frame hc λa ha=>h.keep e a (h3 a ha),λa ha=>ax _ (h3 a ha)⟩,λa ha=>?_,h.prot.trans hc⟩;rcases az.mp ha with z|z
 ·exact hl a z
 ·exact h.lst' e a z
def StE.grow(h:StE K M U Y H P F)(e:Same H H'):StE K M U Y H' P F:=h.more (fp:=[]) e (λa ha=>(nomatch ha)) λa ha=>(nomatch ha)
theorem StR.more(h:StR K M U Y H P F)(e:Same H H')(hf:∀a∈fp,H a=p4)(hl:∀a∈fp,∃ys:MuO,H' a=cz ys.1):StR K M U Y H' P (fp++F):=by
 obtain⟨G,h1,h2,h3⟩:=h.all;have S:=h.toE.more e hf hl;exact⟨⟨G,h1.frame (a0A e hf) λa ha=>h.toE.keep e a (h3 a ha),h2,λa ha=>ax _ (h3 a ha)⟩,S.lst,S.prot⟩
def StR.grow(h:StR K M U Y H P F)(e:Same H H'):StR K M U Y H' P F:=h.more (fp:=[]) e (λa ha=>(nomatch ha)) λa ha=>(nomatch ha)
def v8(h:U[i]?=cz d):U.getD i x=d:=by rw[aB,h];rfl
def StE.get(h:StE K M U Y H P F)(hm:M[i]?=cz (.own u)):∃v f,Y[i]?=cz (cz v)/\Own K H F u v (U.getD i .none) f/\∀a∈f,a∈F:=by
 obtain⟨G,h1,h3⟩:=h.all;obtain⟨d,o,f,pre,post,e1,e2,⟨v,rfl,q⟩,e4,_⟩:=h1.at_ hm;refine⟨v,f,e2,by rw[v8 e1];exact q,λa ha=>h3 a ?_⟩;rw[e4];exact ax _ (aO _ ha)
theorem StAll.pick(h:StAll K H F M U Y G)(hG:∀a∈G,a∈F):∀js:List Nat,∃G',StAll K H F (js.map λj=>M.getD j .dead) (js.map λj=>U.getD j .none) (js.map λj=>(Y[j]?).getD p4) G'/\∀a∈G',a∈F
 |[]=>⟨[],L7,λa ha=>(nomatch ha)⟩
 |j::js=>by
  obtain⟨G',q,hq⟩:=StAll.pick h hG js;cases e:M[j]? with
  |none=>
   refine⟨[]++G',?_,λa ha=>hq a (by simpa using ha)⟩;have:M.getD j .dead=.dead:=by rw[aB,e];rfl
   rw[aA,aA,aA,this];exact j9 rfl q
  |some m=>
   obtain⟨d,o,f,pre,post,e1,e2,e3,e4,_⟩:=h.at_ e;refine⟨f++G',?_,λa ha=>?_⟩
   ·rw[aA,aA,aA,show M.getD j .dead=m by rw[aB,e];rfl,v8 e1,e2];exact j9 e3 q
   ·rcases az.mp ha with z|z
    ·exact hG a (by rw[e4];exact ax _ (aO _ z))
    ·exact hq a z
def Q2{pre f post:List au}(h:(pre++(f++post)).Nodup):(pre++post).Nodup:=
 h.sublist (List.Sublist.append (oV _) (hU _ _))
def mem_mid{pre f post:List au}{a:au}(h:a∈pre++post):a∈pre++(f++post):=by
 rcases az.mp h with h|h
 ·exact aO _ h
 ·exact ax _ (ax _ h)
def a1k{pre f post:List au}(h:(pre++post).Nodup)(hf:f.Nodup)(d:∀a∈f,a∉pre++post):(pre++(f++post)).Nodup:=by
 rw[bh]at h ⊢;obtain⟨h1,h2,h3⟩:=h;refine⟨h1,?_,λa ha b hb=>?_⟩
 ·rw[bh];exact⟨hf,h2,λa ha b hb e=>d a ha (e▸ax _ hb)⟩
 ·rcases az.mp hb with z|z
  ·intro e;exact d b z (e▸aO _ ha)
  ·exact h3 a ha b z
def a5s{pre f post:List au}{a:au}(h:a∈pre++(f++post)):a∈f\/a∈pre++post:=by
 rcases az.mp h with h|h
 ·exact .inr (aO _ h)
 ·rcases az.mp h with h|h
  ·exact .inl h
  ·exact .inr (ax _ h)
def a4t{pre f post:List au}(h:(pre++(f++post)).Nodup):∀a∈f,a∉pre++post:=λa ha z=>by
 rw[bh,bh]at h;rcases az.mp z with z|z
 ·exact h.2.2 a z a (aO _ ha) rfl
 ·exact h.2.1.2.2 a ha a z rfl
theorem StR.set{H1:Hp}{i:Nat}{m:Md}{u:Ty}{v:V}{d:D}{fp:List au}(h:StR K M U Y H P F)(hm:M[i]?=cz m)(e:Same H H1)(hv:Own K H1 (fp++F) u v d fp)(hn:fp.Nodup)(hf:∀a∈fp,H a=p4) :
  StR K (M.set i (.own u)) (U.set i d) (Y.set i (cz v)) H1 P (fp++F):=by
 obtain⟨G,h1,h2,h3⟩:=h.all;have S:=h.more e hf (hv.lst u);obtain⟨d0,o,f,pre,post,e1,e2,e3,e4,e5⟩:=h1.at_ hm;have kc:=h2;rw[e4]at kc;have hG:∀a∈pre++post,a∈F:=λa ha=>h3 a (by rw[e4];exact mem_mid ha)
 have hc:Same (cut H F) (cut H1 (fp++F)):=M9 e λa o ha mG=>by
  rcases az.mp mG with z|z
  ·rw[hf a z]at ha;cases ha
  ·exact z
 refine⟨⟨pre++(fp++post),e5 H1 _ (.own u) d (cz v) fp (λa ha=>h.toE.keep e a (hG a ha)) hc ⟨v,rfl,hv⟩,a1k (Q2 kc) hn λa ha z=>?_,λa ha=>?_⟩,S.lst,S.prot⟩
 ·obtain⟨ys,q⟩:=h.lst a (hG a z);rw[hf a ha]at q;cases q
 ·rcases a5s ha with z|z
  ·exact aO _ z
  ·exact ax _ (hG a z)
def StR.kill{i:Nat}{m:Md}(h:StR K M U Y H P F)(hm:M[i]?=cz m)(d:D)(o:Option V):StR K (M.set i .dead) (U.set i d) (Y.set i o) H P F:=by
 obtain⟨G,h1,h2,h3⟩:=h.all;obtain⟨d0,o0,f,pre,post,e1,e2,e3,e4,e5⟩:=h1.at_ hm;rw[e4]at h2;exact⟨⟨pre++([]++post),e5 H F .dead d o [] (λ_ _=>rfl) (Same.refl _) rfl,Q2 h2,λa ha=>h3 a (by rw[e4];exact mem_mid ha)⟩,h.lst,h.prot⟩
def set_same{α:Type}{l:List α}{i:Nat}{x:α}(h:l[i]?=cz x):l.set i x=l:=kK λj=>by
 rw[List.getElem?_set]
 split
 ·next hj=>
  subst hj
  split
  ·exact h.symm
  ·next hh=>exact (gG (by lia)).symm
 ·rfl
theorem StR.dead{i:Nat}{m:Md}(h:StR K M U Y H P F)(hm:M[i]?=cz m):StR K (M.set i .dead) U Y H P F:=by
 obtain⟨G,h1,_⟩:=h.all;obtain⟨d0,o0,f,pre,post,e1,e2,_⟩:=h1.at_ hm;have:=h.kill hm d0 o0
 rwa[set_same e1,set_same e2]at this
def Own.freeze(h:Own K H F u v d fp)(hs:∀a∈F',a∈F)(hd:∀a∈fp,a∉F'):Own K H F' .f v d []:=by
 have key:∀(u:Ty) {v:V} {d:D} {fp:List au},Own K H F u v d fp->(∀a∈fp,a∉F')->Den K (cut H F') v d:=by
  intro u;refine Ty.rec (motive_1:=λu=>∀{v:V} {d:D} {fp:List au},Own K H F u v d fp->(∀a∈fp,a∉F')->Den K (cut H F') v d)
   (motive_2:=λus=>∀{xs:List V} {ds:List D} {fp:List au},OwnTs K H F us xs ds fp->(∀a∈fp,a∉F')->DenAll K (cut H F') xs ds) ?_ ?_ ?_ ?_ ?_ ?_ ?_ u
  ·intro v d fp h _;simp only[Own]at h;exact h.2.2.up (F9 hs)
  ·intro v d fp h _;simp only[Own]at h;exact h.2.up (F9 hs)
  ·intro u ih v d fp h hd;simp only[Own]at h;rcases h with⟨_,_,h⟩|⟨a,xs,ds,fs,rfl,h1,rfl,rfl,h2⟩
   ·exact h.up (F9 hs)
   ·refine den_list (.inl (.inl (j5 (hd a av) h1))) (ListAll.den (R:=λv d f=>Own K H F u v d f/\∀a∈f,a∉F') (λv d f q=>ih q.1 q.2) (h2.imp λv d f hf _ q=>⟨q,λb hb=>hd b (aw _ (hf b hb))⟩))
  ·intro us ih v d fp h hd;simp only[Own]at h;obtain⟨a,xs,ds,rfl,h1,h0,rfl,h2⟩:=h;exact den_tup (SqT.of (j5 (λz=>h0 (hs a z)) h1)) (ih h2 hd)
  ·intro kt u ih v d fp h hd;simp only[Own]at h;obtain⟨a,es,ds,fs,rfl,h1,rfl,rfl,h3,h2⟩:=h;exact a4s (j5 (hd a av) h1) (λe he=>(h3.2 e he).2.up (F9 hs)) (ListAll.den (R:=λv d f=>Own K H F u v d f/\∀a∈f,a∉F') (λv d f q=>ih q.1 q.2) (h2.imp λv d f hf _ q=>⟨q,λb hb=>hd b (aw _ (hf b hb))⟩))
  ·intro xs ds fp h _;simp only[OwnTs]at h;obtain⟨rfl,rfl,_⟩:=h;exact denAll_nil
  ·intro u us zt zr xs ds fp h hd;simp only[OwnTs]at h;obtain⟨v,r,d,e,f,g,rfl,rfl,rfl,h1,h2⟩:=h;exact denAll_cons (zt h1 λa ha=>hd a (aO _ ha)) (zr h2 λa ha=>hd a (ax _ ha))
 simp only[Own];exact⟨trivial,key u h hd⟩
theorem StR.freeze{i:Nat}{u:Ty}(h:StR K M U Y H P F)(hm:M[i]?=cz (.own u)):∃F',StR K (M.set i (.own .f)) U Y H P F':=by
 obtain⟨G,h1,h2,h3⟩:=h.all;obtain⟨d,o,f,pre,post,e1,e2,⟨v,rfl,e3⟩,e4,e5⟩:=h1.at_ hm;rw[e4]at h2;have jT:∀a∈F.filter (λa=>decide (a∉f)),a∈F:=λa ha=>(bG.mp ha).1
 have uM:∀a∈f,a∉F.filter (λa=>decide (a∉f)):=λa ha z=>absurd ha (aR (bG.mp z).2)
 have hc:Same (cut H F) (cut H (F.filter (λa=>decide (a∉f)))):=F9 jT;have q:=e5 H _ (.own .f) d (cz v) [] (λ_ _=>rfl) hc ⟨v,rfl,e3.freeze jT uM⟩;rw[set_same e1,set_same e2]at q;refine⟨_,⟨_,q,Q2 h2,λa ha=>bG.mpr ⟨h3 a (by rw[e4];exact mem_mid ha),aE λz=>a4t h2 a z ha⟩⟩,λa ha=>h.lst a (jT a ha),h.prot.trans hc⟩
end
inductive Cat where
 |new (u:Ty)|bor (u:Ty)|tmp
def ResR(K:ae)(c:Cat)(H H':Hp)(F:List au)(v:V)(d:D):Prop:=
 match c with
 |.new u=>∃fp,Own K H' (fp++F) u v d fp/\fp.Nodup/\∀a∈fp,H a=p4
 |.bor u=>∃fp,Own K H' F u v d fp/\∀a∈fp,a∈F
 |.tmp=>Den K H' v d
section
variable {K:ae}{c:Cat}{H H0 H' H1 H2:Hp}{F:List au}{v:V}{d:D}
theorem ResR.den(r:ResR K c H H' F v d):Den K H' v d:=by
 cases c with
 |new u=>obtain⟨fp,h,_⟩:=r;exact h.den u
 |bor u=>obtain⟨fp,h,_⟩:=r;exact h.den u
 |tmp=>exact r
def Own.grow(h:Own K H1 F u v d fp)(e:Same H1 H2):Own K H2 F u v d fp:=
 h.frame (B7 e) u λa ha=>by obtain⟨ys,q⟩:=h.lst u a ha;rw[q,e _ _ q]
theorem ResR.up(r:ResR K c H H1 F v d)(e:Same H1 H2):ResR K c H H2 F v d:=by
 cases c with
 |new u=>obtain⟨fp,h,q⟩:=r;exact⟨fp,h.grow e,q⟩
 |bor u=>obtain⟨fp,h,q⟩:=r;exact⟨fp,h.grow e,q⟩
 |tmp=>exact Den.up r e
def ResR.early(r:ResR K c H H1 F v d)(e:Same H0 H):ResR K c H0 H1 F v d:=by
 cases c with
 |new u=>obtain⟨fp,h,n,q⟩:=r;exact⟨fp,h,n,λa ha=>e.free (q a ha)⟩
 |bor u=>exact r
 |tmp=>exact r
def G9(hi:imm d=rp)(hd:Den K H' v d)(hF:∀a∈F,∃ys:MuO,H' a=cz ys.1):ResR K (.new .i) H H' F v d:=by
 refine⟨[],?_,bJ,λa ha=>(nomatch ha)⟩;simp only[Own,cA];exact⟨trivial,hi,hd.imm_out hF d hi⟩
def V8(h:Own K H F .i v d fp):fp=[]/\imm d=rp/\Den K (cut H F) v d:=by simpa only [Own]using h
def a8Q(h:Own K H F .f v d fp):fp=[]/\Den K (cut H F) v d:=by simpa only [Own]using h
end
abbrev EvE:=List D->Option D
abbrev EvT:=List D->Option Bool
noncomputable def spE(K:ae)(M:List Md)(f:EvE)(c:Cat):TE:=λY H Q=>∃(U:List D) (P:Hp) (F:List au) (d:D),StE K M U Y H P F/\f U=cz d/\∀v H',Same H H'->ResR K c H H' F v d->Q v H'
noncomputable def PX(X:Cx)(M:List Md)(e:Expr)(f:EvE)(c:Cat):Prop:=PE X e (spE X.K M f c)
def PX.out{X:Cx}{M:List Md}{e:Expr}{f:EvE}{c:Cat}(h:PX X M e f c) :
  ∃t,PE X e t/\∀(U:List D) (Y:L2.St) (H P:Hp) (F:List au) (d:D) (Q:VK),StE X.K M U Y H P F->f U=cz d->(∀v H',Same H H'->ResR X.K c H H' F v d->Q v H')->t Y H Q:=
 ⟨_,h,λU _ _ P F d _ S hf q=>⟨U,P,F,d,S,hf,q⟩⟩
def PX.mk{X:Cx}{M:List Md}{e:Expr}{f:EvE}{c:Cat}
  (h:∃t,PE X e t/\∀(U:List D) (Y:L2.St) (H P:Hp) (F:List au) (d:D) (Q:VK),StE X.K M U Y H P F->f U=cz d->(∀v H',Same H H'->ResR X.K c H H' F v d->Q v H')->t Y H Q):PX X M e f c:=by
 obtain⟨t,p,q⟩:=h;exact λpins s Y H Q I ⟨U,P,F,d,S,hf,z⟩=>p pins s Y H Q I (q U Y H P F d Q S hf z)
noncomputable def spT(K:ae)(M:List Md)(g:EvT):TT:=λY H Q=>∃(U:List D) (P:Hp) (F:List au) (b:Bool),StE K M U Y H P F/\g U=cz b/\∀H',Same H H'->Q b H'
noncomputable def PTX(X:Cx)(M:List Md)(e:Expr)(g:EvT):Prop:=PT X e (spT X.K M g)
def PTX.out{X:Cx}{M:List Md}{e:Expr}{g:EvT}(h:PTX X M e g) :
  ∃t,PT X e t/\∀(U:List D) (Y:L2.St) (H P:Hp) (F:List au) (b:Bool) (Q:Bool->Hp->Prop),StE X.K M U Y H P F->g U=cz b->(∀H',Same H H'->Q b H')->t Y H Q:=
 ⟨_,h,λU _ _ P F b _ S hf q=>⟨U,P,F,b,S,hf,q⟩⟩
def PTX.mk{X:Cx}{M:List Md}{e:Expr}{g:EvT}
  (h:∃t,PT X e t/\∀(U:List D) (Y:L2.St) (H P:Hp) (F:List au) (b:Bool) (Q:Bool->Hp->Prop),StE X.K M U Y H P F->g U=cz b->(∀H',Same H H'->Q b H')->t Y H Q):PTX X M e g:=by
 obtain⟨t,p,q⟩:=h;exact λpins s Y H Q I ⟨U,P,F,d,S,hf,z⟩=>p pins s Y H Q I (q U Y H P F d Q S hf z)
noncomputable def PWX(X:Cx)(M:List Md)(e:Expr)(g:EvT):Prop:=PW X e (spT X.K M g)
def PWX.out{X:Cx}{M:List Md}{e:Expr}{g:EvT}(h:PWX X M e g) :
  ∃t,PW X e t/\∀(U:List D) (Y:L2.St) (H P:Hp) (F:List au) (b:Bool) (Q:Bool->Hp->Prop),StE X.K M U Y H P F->g U=cz b->(∀H',Same H H'->Q b H')->t Y H Q:=
 ⟨_,h,λU _ _ P F b _ S hf q=>⟨U,P,F,b,S,hf,q⟩⟩
def PWX.mk{X:Cx}{M:List Md}{e:Expr}{g:EvT}
  (h:∃t,PW X e t/\∀(U:List D) (Y:L2.St) (H P:Hp) (F:List au) (b:Bool) (Q:Bool->Hp->Prop),StE X.K M U Y H P F->g U=cz b->(∀H',Same H H'->Q b H')->t Y H Q):PWX X M e g:=by
 obtain⟨t,p,q⟩:=h;exact λwhole pins s Y H Q I ⟨U,P,F,d,S,hf,z⟩=>p whole pins s Y H Q I (q U Y H P F d Q S hf z)
abbrev EvA:=List D->Option (List D)
noncomputable def PAX(X:Cx)(M:List Md)(es:List Expr)(f:EvA):Prop:=
 ∃t,PA X es t/\∀(U:List D) (Y:L2.St) (H P:Hp) (F:List au) (ds:List D) (Q:List V->Hp->Prop),StE X.K M U Y H P F->f U=cz ds->(∀vs H',Same H H'->DenAll X.K H' vs ds->Q vs H')->t Y H Q
noncomputable def PAN(X:Cx)(M:List Md)(es:List Expr)(f:EvA)(us:List Ty):Prop:=
 ∃t,PA X es t/\∀(U:List D) (Y:L2.St) (H P:Hp) (F:List au) (ds:List D) (Q:List V->Hp->Prop),StE X.K M U Y H P F->f U=cz ds->
  (∀vs H' fp,Same H H'->OwnTs X.K H' (fp++F) us vs ds fp->fp.Nodup->(∀a∈fp,H a=p4)->Q vs H')->t Y H Q
noncomputable def b7(i:Nat):EvE:=λU=>cz (U.getD i .none)
noncomputable def eC(d:D):EvE:=λ_=>cz d
noncomputable def e1(g:D->Option D)(a:EvE):EvE:=λU=>(a U).bind g
noncomputable def e2(g:D->D->Option D)(a b:EvE):EvE:=λU=>(a U).bind λx=>(b U).bind λy=>g x y
def asB:D->Option Bool
 |.bool b=>cz b
 |_=>p4
noncomputable def b1G(a b:EvE):EvE:=λU=>(a U).bind λx=>(asB x).bind λk=>if k then b U else cz (.bool xn)
noncomputable def eOr(a b:EvE):EvE:=λU=>(a U).bind λx=>(asB x).bind λk=>if k then cz (.bool rp) else b U
noncomputable def b4t(a:EvE):EvE:=λU=>(a U).bind λx=>(asB x).bind λk=>cz (.bool !k)
noncomputable def eIf(c:EvT)(a b:EvE):EvE:=λU=>(c U).bind λk=>if k then a U else b U
noncomputable def eCh(g g':D->D->Option D)(a b c:EvE):EvE:=λU=>(a U).bind λx=>(b U).bind λy=>(g x y).bind λz=>(asB z).bind λk=>if k then (c U).bind λw=>g' y w else cz (.bool xn)
def tr:D->Option Bool
 |.none=>cz xn
 |.bool b=>cz b
 |.int i=>cz (i !=0)
 |.str x=>if x.length<=aV then cz ((x.length:Int)!=0) else p4
 |.list ds=>cz !ds.isEmpty
 |.tuple ds=>cz !ds.isEmpty
 |.dict _=>p4
noncomputable def tV(a:EvE):EvT:=λU=>(a U).bind tr
noncomputable def tB(a:EvE):EvT:=λU=>(a U).bind asB
noncomputable def tNo(a:EvT):EvT:=λU=>(a U).bind λk=>cz !k
noncomputable def tAn(a b:EvT):EvT:=λU=>(a U).bind λk=>if k then b U else cz xn
noncomputable def a5t(a b:EvT):EvT:=λU=>(a U).bind λk=>if k then cz rp else b U
def i5:List D->Option (List D):=λ_=>cz []
noncomputable def b8(a:EvE)(r:List D->Option (List D)):List D->Option (List D):=λU=>(a U).bind λx=>(r U).bind λxs=>cz (x::xs)
def J8(h:asB d=cz k):d=.bool k:=by
 cases d with
 |bool b=>cases h;rfl
 |_=>cases h
def bnd{α β:Type}{o:Option α}{f:α->Option β}{b:β}(h:o.bind f=cz b):∃a,o=cz a/\f a=cz b:=Option.bind_eq_some_iff.mp h
section
variable {X:Cx}{M:List Md}{a b e e':Expr}{es rest:List Expr}{f g fa fb fc:EvE}{ga gb:EvT}{c ca cb cc:Cat}{u:Ty}{us:List Ty}{pos:fQ}
def PX.imp(h:PX X M e f c)(k:∀(K:ae) (H H':Hp) (F:List au) (v:V) (d:D),(∀a∈F,∃ys:MuO,H a=cz ys.1)->Same H H'->ResR K c H H' F v d->ResR K c' H H' F v d):PX X M e f c':=by
 obtain⟨t,p,q⟩:=h.out;exact .mk ⟨t,p,λU Y H P F d Q S hf z=>q U Y H P F d Q S hf λv H' e r=>z v H' e (k _ _ _ _ _ _ S.lst e r)⟩
def PX.newf(h:PX X M e f (.bor .f)):PX X M e f (.new .f):=h.imp λK H H' F v d _ _ ⟨fp,o,_⟩=>by
 obtain⟨rfl,_⟩:=a8Q o;exact⟨[],o,bJ,λa ha=>(nomatch ha)⟩
def PX.newi(h:PX X M e f (.bor .i)):PX X M e f (.new .i):=h.imp λK H H' F v d _ _ ⟨fp,o,_⟩=>by
 obtain⟨rfl,_⟩:=V8 o;exact⟨[],o,bJ,λa ha=>(nomatch ha)⟩
def PX.itof(h:PX X M e f (.new .i)):PX X M e f (.new .f):=h.imp λK H H' F v d _ _ ⟨fp,o,n,z⟩=>by
 obtain⟨rfl,_,q⟩:=V8 o;refine⟨[],?_,n,z⟩;simp only[Own];exact⟨trivial,q⟩
def PX.itol(h:PX X M e f (.new .i)):PX X M e f (.new (.l u)):=h.imp λK H H' F v d _ _ ⟨fp,o,n,z⟩=>by
 obtain⟨rfl,w,q⟩:=V8 o;refine⟨[],?_,n,z⟩;simp only[Own];exact .inl ⟨trivial,w,q⟩
def PX.frz(h:PX X M e f (.new u)):PX X M e f (.new .f):=h.imp λK H H' F v d hF _ ⟨fp,o,n,z⟩=>by
 refine⟨[],o.freeze (λa ha=>ax _ (by simpa using ha)) (λa ha Gb=>?_),bJ,λa ha=>(nomatch ha)⟩;obtain⟨ys,q⟩:=hF a (by simpa using Gb);rw[z a ha]at q;cases q
def A7(i:Nat)(hN:X.N[i]?=cz x:=by rfl)(hv:Vis X.env.scope x:=by first|exact cg rfl|exact bP (cg rfl)|exact bP (bP rfl))(hd:(x==("__debug__":bI))=xn:=by decide)
  (jg:(x==("__classdict__":bI))=xn:=by decide) (hm:M[i]?=cz (.own u):=by rfl):PX X M (.Name x pos) (b7 i) (.bor u):=by
 refine .mk ⟨_,x9 hN hv hd jg,λU Y H P F d Q S hf q=>?_⟩;cases hf
 obtain⟨v,fp,e,o,sub⟩:=S.get hm;exact⟨v,e,q v H (Same.refl _) ⟨fp,o,sub⟩⟩
def a0B(h:PE X e (tC v))(hi:imm d=rp)(hd:∀H,Den X.K H v d):PX X M e (eC d) (.new .i):=by
 refine .mk ⟨_,h,λU Y H P F d' Q S hf q=>?_⟩;cases hf
 exact q v H (Same.refl _) (G9 hi (hd H) S.lst)
def c8{i j}:PX X M (.Constant (.int i) j pos) (eC (.int i)) (.new .i):=a0B b6y (by simp only[imm]) λ_=>den_int
def O3{k j}:PX X M (.Constant (.bool k) j pos) (eC (.bool k)) (.new .i):=a0B b8Q (by simp only[imm]) λ_=>den_bool
def T8{j}:PX X M (.Constant .none j pos) (eC .none) (.new .i):=a0B b6z (by simp only[imm]) λ_=>den_none
def b4u(hm:∃t,X.mg x=cz (.int i t))(hg:Gl X x:=by rfl)(hd:(x==("__debug__":bI))=xn:=by decide):PX X M (.Name x pos) (eC (.int i)) (.new .i):=by
 obtain⟨t,hm⟩:=hm;exact a0B (b3W (v:=.int i) hg hm ⟨_,rfl⟩ hd) (by simp only[imm]) λ_=>den_int
def C3{g:D->D->Option D}{U:List D}{d:D}(h:e2 g fa fb U=cz d):∃x y,fa U=cz x/\fb U=cz y/\g x y=cz d:=by
 obtain⟨x,h1,h⟩:=bnd h;obtain⟨y,h2,h⟩:=bnd h;exact⟨x,y,h1,h2,h⟩
def i7{g:D->D->Option D}(ho:OpS X (fA op) g)(ha:PX X M a fa ca)(hb:PX X M b fb cb):PX X M (.BinOp a op b pos) (e2 g fa fb) (.new .i):=by
 obtain⟨r,hr,hs⟩:=ho;obtain⟨ta,pa,qa⟩:=ha.out;obtain⟨tb,pb,qb⟩:=hb.out;refine .mk ⟨_,b1n hr pa pb,λU Y H P F d Q S hf q=>?_⟩;obtain⟨x,y,h1,h2,h3⟩:=C3 hf;exact qa U Y H P F x _ S h1 λv H1 e1 r1=>qb U Y H1 P F y _ (S.grow e1) h2 λw H2 e2 r2=>hs v w H2 x y d Q (r1.den.up e2) r2.den h3 λz hi hd=>q z H2 (e1.trans e2) (G9 hi (hd H2) (S.lst' (e1.trans e2)))
def a2Q{g:D->D->Option D}(ho:OpS X (bU op) g)(ha:PX X M a fa ca)(hb:PX X M b fb cb)(hm:fq op b=xn:=by first|exact a0h _|with_unfolding_all rfl):PX X M (.Compare a [op] [b] pos) (e2 g fa fb) (.new .i):=by
 obtain⟨r,hr,hs⟩:=ho;obtain⟨ta,pa,qa⟩:=ha.out;obtain⟨tb,pb,qb⟩:=hb.out;refine .mk ⟨_,a8M hr pa pb hm,λU Y H P F d Q S hf q=>?_⟩;obtain⟨x,y,h1,h2,h3⟩:=C3 hf;exact qa U Y H P F x _ S h1 λv H1 e1 r1=>qb U Y H1 P F y _ (S.grow e1) h2 λw H2 e2 r2=>hs v w H2 x y d Q (r1.den.up e2) r2.den h3 λz hi hd=>q z H2 (e1.trans e2) (G9 hi (hd H2) (S.lst' (e1.trans e2)))
def m6{op:CmpOp}{g:D->D->Option D}(ho:OpS X (bU op) g)(ha:PX X M a fa ca)(hb:PX X M b fb cb)(hm:fq op b=xn:=by first|exact a0h _|with_unfolding_all rfl):PTX X M (.Compare a [op] [b] pos) (tB (e2 g fa fb)):=by
 obtain⟨r,hr,hs⟩:=ho;obtain⟨ta,pa,qa⟩:=ha.out;obtain⟨tb,pb,qb⟩:=hb.out;refine .mk ⟨_,a0v hr pa pb hm,λU Y H P F k Q S hf q=>?_⟩;obtain⟨d,hf,hk⟩:=bnd hf;cases J8 hk
 obtain⟨x,y,h1,h2,h3⟩:=C3 hf;exact qa U Y H P F x _ S h1 λv H1 e1 r1=>qb U Y H1 P F y _ (S.grow e1) h2 λw H2 e2 r2=>hs v w H2 x y _ _ (r1.den.up e2) r2.den h3 λz hi hd=>⟨k,(hd H2).bool_inv,q H2 (e1.trans e2)⟩
def a9Q{op vB:CmpOp}{g g':D->D->Option D}{c0:Expr}(ho:OpS X (bU op) g)(nS:OpS X (bU vB) g')(ha:PX X M a fa ca)(hb:PX X M b fb cb)(hc:PX X M c0 fc cc)(hm:lastMarks [op,vB] [b,c0]=xn:=by with_unfolding_all rfl) :
  PTX X M (.Compare a [op,vB] [b,c0] pos) (tB (eCh g g' fa fb fc)):=by
 obtain⟨r,hr,hs⟩:=ho;obtain⟨r',zM,iU⟩:=nS;obtain⟨ta,pa,qa⟩:=ha.out;obtain⟨tb,pb,qb⟩:=hb.out;obtain⟨tc,pc,qc⟩:=hc.out;refine .mk ⟨_,b1q hr zM pa pb pc hm,λU Y H P F k0 Q S hf q=>?_⟩;obtain⟨d,hf,hk⟩:=bnd hf;cases J8 hk
 obtain⟨x,h1,hf⟩:=bnd hf;obtain⟨y,h2,hf⟩:=bnd hf;obtain⟨z,h3,hf⟩:=bnd hf;obtain⟨k,h4,hf⟩:=bnd hf;cases J8 h4
 refine qa U Y H P F x _ S h1 λv H1 e1 r1=>qb U Y H1 P F y _ (S.grow e1) h2 λw H2 e2 r2=>hs v w H2 x y _ _ (r1.den.up e2) r2.den h3 λz hi hd=>⟨k,(hd H2).bool_inv,?_⟩
 cases k with
 |false=>
  have pG:k0=xn:=by injection (aK hf).symm
  subst pG;exact a6l ⟨xn,rfl,q H2 (e1.trans e2)⟩
 |true=>
  obtain⟨w',h5,hf⟩:=bnd (show (fc U).bind (λw=>g' y w)=cz (.bool k0) from hf);exact a6m (qc U Y H2 P F w' _ (S.grow (e1.trans e2)) h5 λw3 H3 e3 r3=>iU w w3 H3 y w' _ _ (r2.den.up e3) r3.den hf λz hi hd=>⟨k0,(hd H3).bool_inv,q H3 ((e1.trans e2).trans e3)⟩)
def b1H(h:PX X M a f c):PX X M (.BoolOp op [a] pos) f c:=by
 obtain⟨t,p,q⟩:=h.out;exact .mk ⟨t,b6D p,q⟩
def b1I(ha:PX X M a fa ca)(hb:PX X M (.BoolOp .And (b::rest) pos) fb (.new .i)):PX X M (.BoolOp .And (a::b::rest) pos) (b1G fa fb) (.new .i):=by
 obtain⟨ta,pa,qa⟩:=ha.out;obtain⟨tb,pb,qb⟩:=hb.out;refine .mk ⟨_,b6E pa pb,λU Y H P F d Q S hf q=>?_⟩;obtain⟨x,h1,hf⟩:=bnd hf;obtain⟨k,h2,hf⟩:=bnd hf;cases J8 h2
 refine qa U Y H P F _ _ S h1 λv H1 e1 r1=>⟨k,r1.den.bool_inv,?_⟩
 cases k with
 |false=>
  have pG:d=.bool xn:=(aK hf).symm;subst pG;exact a6l (q _ H1 e1 (G9 (by simp only[imm]) den_bool (S.lst' e1)))
 |true=>exact a6m (qb U Y H1 P F d Q (S.grow e1) hf λw H2 e2 r2=>q w H2 (e1.trans e2) (r2.early e1))
def b7e(ha:PX X M a fa ca):PX X M (.UnaryOp .Not a pos) (b4t fa) (.new .i):=by
 obtain⟨ta,pa,qa⟩:=ha.out;refine .mk ⟨_,b6F pa,λU Y H P F d Q S hf q=>?_⟩;obtain⟨x,h1,hf⟩:=bnd hf;obtain⟨k,h2,hf⟩:=bnd hf;cases J8 h2
 cases hf
 exact qa U Y H P F _ _ S h1 λv H1 e1 r1=>⟨k,r1.den.bool_inv,q _ H1 e1 (G9 (by simp only[imm]) den_bool (S.lst' e1))⟩
def b7f(h:Den K H v d)(ht:tr d=cz k):b6V K v H k:=by
 cases d with
 |none=>cases h.none_inv;cases ht;exact rfl
 |bool b=>cases h.bool_inv;cases ht;exact rfl
 |int i=>cases h.int_inv;cases ht;exact rfl
 |str x=>
  cases h.str_inv
  replace ht:(if x.length<=aV then cz ((x.length:Int)!=0) else p4)=cz k:=ht
  by_cases z:x.length<=aV
  ·rw[aC z]at ht;cases ht
   exact⟨z,rfl⟩
  ·rw[aI z]at ht;cases ht
 |list ds=>
  obtain⟨a,xs,rfl,h1,h2⟩:=h.list_inv;cases ht
  refine .inl ⟨xs,h1.l,?_⟩;have:=h2.length;cases xs<;>cases ds<;>simp_all
 |tuple ds=>
  obtain⟨a,xs,rfl,h1,h2⟩:=h.tup_inv;cases ht
  refine .inr (.inl ⟨xs,h1,?_⟩);have:=h2.length;cases xs<;>cases ds<;>simp_all
 |dict kvs=>cases ht
def X4(ha:PX X M a fa ca)(he:∀whole,so a X.env whole=(do let v <-whole;standAt a.pos;rd [v] (v_ v)):=by intro _;rfl):PTX X M a (tV fa):=by
 obtain⟨ta,pa,qa⟩:=ha.out;refine .mk ⟨_,b1r pa he,λU Y H P F k Q S hf q=>?_⟩;obtain⟨x,h1,hf⟩:=bnd hf;exact qa U Y H P F _ _ S h1 λv H1 e1 r1=>⟨k,b7f r1.den hf,q H1 e1⟩
def X5(h:PTX X M a ga):PTX X M (.UnaryOp .Not a pos) (tNo ga):=by
 obtain⟨ta,pa,qa⟩:=h.out;refine .mk ⟨_,b6C pa,λU Y H P F k Q S hf q=>?_⟩;obtain⟨x,h1,hf⟩:=bnd hf;cases hf
 exact qa U Y H P F _ _ S h1 λH1 e1=>q H1 e1
theorem PWX.pt(h:PWX X M e ga):PTX X M e ga:=by
 obtain⟨t,p,q⟩:=h.out;exact .mk ⟨t,p.pt,q⟩
def a2R(h:PTX X M a ga):PWX X M (.BoolOp .And [a] pos) ga:=by
 obtain⟨t,p,q⟩:=h.out;exact .mk ⟨t,b3Y p,q⟩
def a2u(h:PTX X M a ga):PWX X M (.BoolOp .Or [a] pos) ga:=by
 obtain⟨t,p,q⟩:=h.out;exact .mk ⟨t,b6A p,q⟩
def a5u(ha:PTX X M a ga)(hb:PWX X M (.BoolOp .And (b::rest) pos) gb):PWX X M (.BoolOp .And (a::b::rest) pos) (tAn ga gb):=by
 obtain⟨ta,pa,qa⟩:=ha.out;obtain⟨tb,pb,qb⟩:=hb.out;refine .mk ⟨_,b6B pa pb,λU Y H P F k Q S hf q=>?_⟩;obtain⟨x,h1,hf⟩:=bnd hf;refine qa U Y H P F _ _ S h1 λH1 e1=>?_
 cases x with
 |false=>cases hf;exact a6l (q H1 e1)
 |true=>exact a6m (qb U Y H1 P F k Q (S.grow e1) hf λH2 e2=>q H2 (e1.trans e2))
def a5v(ha:PTX X M a ga)(hb:PWX X M (.BoolOp .Or (b::rest) pos) gb):PWX X M (.BoolOp .Or (a::b::rest) pos) (a5t ga gb):=by
 obtain⟨ta,pa,qa⟩:=ha.out;obtain⟨tb,pb,qb⟩:=hb.out;refine .mk ⟨_,b8R pa pb,λU Y H P F k Q S hf q=>?_⟩;obtain⟨x,h1,hf⟩:=bnd hf;refine qa U Y H P F _ _ S h1 λH1 e1=>?_
 cases x with
 |true=>cases hf;exact a6m (q H1 e1)
 |false=>exact a6l (qb U Y H1 P F k Q (S.grow e1) hf λH2 e2=>q H2 (e1.trans e2))
def b1J{c0:Expr}(hc:PTX X M c0 ga)(ha:PX X M a fa c)(hb:PX X M b fb c):PX X M (.IfExp c0 a b pos) (eIf ga fa fb) c:=by
 obtain⟨tc,pc,qc⟩:=hc.out;obtain⟨ta,pa,qa⟩:=ha.out;obtain⟨tb,pb,qb⟩:=hb.out;refine .mk ⟨_,b1g pc pa pb,λU Y H P F d Q S hf q=>?_⟩;obtain⟨k,h1,hf⟩:=bnd hf;refine qc U Y H P F _ _ S h1 λH1 e1=>?_
 cases k with
 |true=>exact a6m (qa U Y H1 P F d Q (S.grow e1) hf λv H2 e2 r2=>q v H2 (e1.trans e2) (r2.early e1))
 |false=>exact a6l (qb U Y H1 P F d Q (S.grow e1) hf λv H2 e2 r2=>q v H2 (e1.trans e2) (r2.early e1))
def n6:PAX X M [] i5:=⟨_,o7,λU Y H P F ds Q S hf q=>by cases hf;exact q [] H (Same.refl _) denAll_nil⟩
def i8{fr:List D->Option (List D)}(ha:PX X M a fa ca)(hr:PAX X M es fr)(hs:ao (a::es) X.env=(xn,cG a X.env)::ao es X.env:=by rfl):PAX X M (a::es) (b8 fa fr):=by
 obtain⟨ta,pa,qa⟩:=ha.out;obtain⟨tr,pr,qr⟩:=hr;refine⟨_,k9 pa pr hs,λU Y H P F ds Q S hf q=>?_⟩;obtain⟨x,h1,hf⟩:=bnd hf;obtain⟨xs,h2,hf⟩:=bnd hf;cases hf
 exact qa U Y H P F _ _ S h1 λv H1 e1 r1=>qr U Y H1 P F _ _ (S.grow e1) h2 λvs H2 e2 r2=>q (v::vs) H2 (e1.trans e2) (denAll_cons (r1.den.up e2) r2)
def u7:PAN X M [] i5 []:=⟨_,o7,λU Y H P F ds Q S hf q=>by
 cases hf
 refine q [] H [] (Same.refl _) ?_ bJ λa ha=>(nomatch ha)
 simp only[OwnTs];exact⟨trivial,trivial,trivial⟩⟩
def C8{fr:List D->Option (List D)}(ha:PX X M a fa (.new u))(hr:PAN X M es fr us)(hs:ao (a::es) X.env=(xn,cG a X.env)::ao es X.env:=by rfl):PAN X M (a::es) (b8 fa fr) (u::us):=by
 obtain⟨ta,pa,qa⟩:=ha.out;obtain⟨tr,pr,qr⟩:=hr;refine⟨_,k9 pa pr hs,λU Y H P F ds Q S hf q=>?_⟩;obtain⟨x,h1,hf⟩:=bnd hf;obtain⟨xs,h2,hf⟩:=bnd hf;cases hf
 refine qa U Y H P F _ _ S h1 λv H1 e1 ⟨fp,o,n,fr⟩=>qr U Y H1 P (fp++F) _ _ (S.more e1 fr (o.lst u)) h2 λvs H2 gp e2 o2 n2 ue=>?_
 have hl:=o.lst u;have hc:Same (cut H1 (fp++F)) (cut H2 (fp++gp++F)):=M9 e2 λa o' ha mG=>by
  rw[bg]at mG;rcases az.mp mG with z|z
  ·exact aO _ z
  ·rcases az.mp z with z|z
   ·rw[ue a z]at ha;cases ha
   ·exact ax _ z
 have hd:∀a∈gp,a∉fp:=λa ha z=>by
  obtain⟨ys,q⟩:=hl a z;rw[ue a ha]at q;cases q
 refine q (v::vs) H2 (fp++gp) (e1.trans e2) ?_ ?_ λa ha=>?_
 ·simp only[OwnTs];refine⟨v,vs,x,xs,fp,gp,rfl,rfl,rfl,o.frame hc u λa ha=>?_,o2.frame (H:=H2) (F9 λa ha=>?_) us λ_ _=>rfl⟩
  ·obtain⟨ys,q⟩:=hl a ha;rw[q,e2 _ _ q]
  ·simp only[az]at ha ⊢;rcases ha with (z|z)|z
   ·exact .inr (.inl z)
   ·exact .inl z
   ·exact .inr (.inr z)
 ·rw[bh];exact⟨n,n2,λa ha b hb e=>hd b hb (e▸ha)⟩
 ·rcases az.mp ha with z|z
  ·exact fr a z
  ·exact e1.free (ue a z)
end
section
variable {K:ae}{H H0 H1:Hp}{F fp:List au}{vs:List V}{ds:List D}{p:au}{u:Ty}{us:List Ty}
def b4v(hp:H p=p4):Same (cut H (fp++F)) (cut (upd H p o) (p::fp++F)):=M9 (j6 hp o) λa u ha mG=>by
 rw[bw]at mG;rcases aF.mp mG with z|z
 ·subst z;rw[hp]at ha;cases ha
 ·exact z
theorem a4u:∀{n:Nat} {vs:List V} {ds:List D} {fp:List au},OwnTs K H F (aS n u) vs ds fp->ListAll (Own K H F u) vs ds fp
 |0,_,_,_,h=>by
  simp only[h_,OwnTs]at h;obtain⟨rfl,rfl,rfl⟩:=h;exact l7
 |n+1,_,_,_,h=>by
  simp only[jP,OwnTs]at h;obtain⟨v,r,d,e,f,g,rfl,rfl,rfl,h1,h2⟩:=h;exact l0 h1 (a4u h2)
theorem OwnTs.len:∀{us:List Ty} {vs:List V} {ds:List D} {fp:List au},OwnTs K H F us vs ds fp->vs.length=us.length/\ds.length=us.length
 |[],_,_,_,h=>by simp only[OwnTs]at h;obtain⟨rfl,rfl,_⟩:=h;exact⟨rfl,rfl⟩
 |u::us,_,_,_,h=>by
  simp only[OwnTs]at h;obtain⟨v,r,d,e,f,g,rfl,rfl,rfl,_,h2⟩:=h;obtain⟨a,b⟩:=OwnTs.len h2;exact⟨by rw[ba,ba,a],by rw[ba,ba,b]⟩
def l5(e:Same (cut H F) (cut H1 F'))(h:ListAll (Own K H F u) vs ds fp)(k:∀a∈fp,H1 a=H a):ListAll (Own K H1 F' u) vs ds fp:=
 h.imp λv d f hf _ q=>q.frame e u λa ha=>k a (hf a ha)
def a6p(h:ListAll (Own K H1 (fp++F) u) vs ds fp)(hn:fp.Nodup)(hf:∀a∈fp,H a=p4)(e:Same H H1)(hp:H1 p=p4)(hl:∀a∈fp,∃ys:MuO,H1 a=cz ys.1):ResR K (.new (.l u)) H (upd H1 p (.lst vs)) F (.ref p) (.list ds):=by
 have BW:p∉fp:=λz=>by obtain⟨ys,q⟩:=hl p z;rw[hp]at q;cases q
 refine⟨p::fp,?_,bB.mpr ⟨BW,hn⟩,λa ha=>?_⟩
 ·simp only[Own];refine .inr ⟨p,vs,ds,fp,rfl,g9,rfl,rfl,l5 (b4v hp) h λa ha=>?_⟩;exact f7 λz=>BW (z▸ha)
 ·rcases aF.mp ha with z|z
  ·subst z;exact e.free hp
  ·exact hf a z
theorem ListAll.of_den:∀{vs:List V} {ds:List D},DenAll K H vs ds->(∀v d,d∈ds->Den K H v d->R v d [])->ListAll R vs ds []
 |_,[],h,_=>by rw[h.nil_inv];exact l7
 |_,d::ds,h,k=>by
  obtain⟨v,r,rfl,h1,h2⟩:=h.cons_inv;have:=l0 (f:=[]) (k v d av h1) (ListAll.of_den h2 λv d hd=>k v d (aw _ hd));exact this
theorem E1:∀{ds:List D} {d:D},e7 ds=rp->d∈ds->imm d=rp
 |[],d,_,h=>nomatch h
 |d0::ds,d,q,h=>by
  simp only[e7,ar]at q;rcases aF.mp h with z|z
  ·rw[z];exact q.1
  ·exact E1 q.2 z
def J1(h:DenAll K H1 vs ds)(hi:e7 ds=rp)(e:Same H H1)(hp:H1 p=p4)(hF:∀a∈F,∃ys:MuO,H1 a=cz ys.1):ResR K (.new (.l .i)) H (upd H1 p (.lst vs)) F (.ref p) (.list ds):=
 a6p (fp:=[]) (ListAll.of_den h λv d hd q=>by
  simp only[Own,cA];exact⟨trivial,E1 hi hd,q.imm_out hF d (E1 hi hd)⟩) bJ (λa ha=>(nomatch ha)) e hp λa ha=>(nomatch ha)
def a0C(h:DenAll K H1 vs ds)(hp:H1 p=p4):Den K (upd H1 p (.tup vs)) (.ref p) (.tuple ds):=den_tup (SqT.of g9) (h.up (j6 hp _))
def b4w(h:e7 ds=rp):imm (.tuple ds)=rp:=by simpa only [imm]using h
end
noncomputable def P7(f:EvA):EvE:=λU=>(f U).bind λds=>cz (.list ds)
noncomputable def Z3(f:EvA):EvE:=λU=>(f U).bind λds=>cz (.tuple ds)
def V9(d:D):Option D:=if imm d then cz d else p4
def Q3(h:V9 d=cz e):e=d/\imm d=rp:=by
 unfold V9 at h;by_cases c:imm d=rp
 ·rw[aC c]at h;exact⟨(aK h).symm,c⟩
 ·rw[aI c]at h;cases h
def b1K(d:D):Option D:=match d with
 |.list ds=>if e7 ds then cz d else p4
 |_=>p4
def a7K(h:b1K d=cz e):∃ds,d=.list ds/\e=.list ds/\e7 ds=rp:=by
 cases d with
 |list ds=>
  have h':(if e7 ds=rp then cz (dX ds) else p4)=cz e:=h;by_cases c:e7 ds=rp
  ·rw[aC c]at h';exact⟨ds,rfl,(aK h').symm,c⟩
  ·rw[aI c]at h';cases h'
 |_=>cases h
section
variable {X:Cx}{M:List Md}{a b e:Expr}{es:List Expr}{fa fb:EvE}{f:EvA}{c ca cb:Cat}{u:Ty}{us:List Ty}{pos:fQ}
def K4(h:PAN X M es f (aS n u))(hn:n<=1000:=by decide):PX X M (.List es pos) (P7 f) (.new (.l u)):=by
 obtain⟨t,p,q⟩:=h;refine .mk ⟨_,b6X p,λU Y H P F d Q S hf k=>?_⟩;obtain⟨ds,h1,hf⟩:=bnd hf;cases hf
 refine q U Y H P F ds _ S h1 λvs H1 fp e o nd fr=>⟨?_,λx hx=>k (.ref x) _ (e.trans (j6 hx _)) (a6p (a4u o) nd fr e hx (o.lst _))⟩
 rw[o.len.1,gF];exact eB (a1h hn)
def b1L(h:PAN X M es f us)(hn:us.length<=1000:=by decide):PX X M (.Tuple es j pos) (Z3 f) (.new (.tp us)):=by
 obtain⟨t,p,q⟩:=h;refine .mk ⟨_,b1s p,λU Y H P F d Q S hf k=>?_⟩;obtain⟨ds,h1,hf⟩:=bnd hf;cases hf
 refine q U Y H P F ds _ S h1 λvs H1 fp e o nd fr=>⟨?_,λx hx=>k (.ref x) _ (e.trans (j6 hx _)) ⟨fp,?_,nd,fr⟩⟩
 ·rw[o.len.1];exact eB (a1h hn)
 ·have BH:x∉fp++F:=λz=>by
   rcases az.mp z with z|z
   ·obtain⟨ys,q⟩:=o.lst _ x z;rw[hx]at q;cases q
   ·obtain⟨ys,q⟩:=S.lst' e x z;rw[hx]at q;cases q
  simp only[Own];refine⟨x,vs,ds,rfl,g9,BH,rfl,o.frame (B7 (j6 hx _)) us λa ha=>?_⟩;exact f7 λz=>BH (z▸aO _ ha)
theorem a6q:∀{n:Nat} {vs:List V} {ds:List D} {fp:List au},OwnTs K H F (aS n .i) vs ds fp->e7 ds=rp
 |0,_,_,_,h=>by
  simp only[h_,OwnTs]at h;obtain⟨rfl,rfl,rfl⟩:=h;simp only[e7]
 |n+1,_,_,_,h=>by
  simp only[jP,OwnTs]at h;obtain⟨v,r,d,e,f,g,rfl,rfl,rfl,h1,h2⟩:=h;simp only[e7,ar];exact⟨(V8 h1).2.1,a6q h2⟩
def a5w{j}(h:PAN X M es f (aS n .i))(hn:n<=1000:=by decide):PX X M (.Tuple es j pos) (Z3 f) (.new .i):=by
 obtain⟨t,p,q⟩:=h;refine .mk ⟨_,b1s p,λU Y H P F d Q S hf k=>?_⟩;obtain⟨ds,h1,hf⟩:=bnd hf;cases hf
 refine q U Y H P F ds _ S h1 λvs H1 fp e o nd fr=>⟨?_,λx hx=>k (.ref x) _ (e.trans (j6 hx _)) (G9 (b4w (a6q o)) (a0C (o.den _) hx) (S.lst' (e.trans (j6 hx _))))⟩
 rw[o.len.1,gF];exact eB (a1h hn)
def a9R(hr:∀U ds,r U=cz ds->ds.length=n)(h:b8 fa r U=cz ds):ds.length=n+1:=by
 obtain⟨x,_,h⟩:=bnd h;obtain⟨xs,h2,h⟩:=bnd h;cases h
 rw[ba,hr U xs h2]
def dIx:D->D->Option D
 |.list ds,.int k=>atI ds k
 |.tuple ds,.int k=>atI ds k
 |_,_=>p4
def N2:D->D->Option D
 |.list ds,.int k=>atI ds k
 |_,_=>p4
def C4(a b:D):Option D:=(dIx a b).bind V9
theorem DenAll.atI(h:DenAll K H vs ds)(e:L2.atI ds k=cz d):∃v j,L2.atI vs k=cz v/\ixN ds.length k=cz j/\vs[j]?=cz v/\ds[j]?=cz d/\Den K H v d:=by
 unfold L2.atI at e ⊢;obtain⟨j,e1,e2⟩:=bnd e;obtain⟨v,h1,h2⟩:=h.get e2;exact⟨v,j,by rw[h.length,e1];exact h1,e1,h1,e2,h2⟩
def b9m(K:ae):R2:=λx y H Q=>b9g K x y H Q\/b9h K x y H Q
def a7L:IxR X (b9m X.K):=b4k.or b6Z
def a8R(h:dIx x y=cz d):∃ds k,(x=.list ds\/x=.tuple ds)/\y=.int k/\L2.atI ds k=cz d:=by
 cases x with
 |list ds=>cases y with
  |int k=>exact⟨ds,k,.inl rfl,rfl,h⟩
  |_=>cases h
 |tuple ds=>cases y with
  |int k=>exact⟨ds,k,.inr rfl,rfl,h⟩
  |_=>cases h
 |_=>cases h
def b9n(hx:Den K H v x)(hy:Den K H w y)(h:dIx x y=cz d)(q:∀z,Den K H z d->Q z H):b9m K v w H Q:=by
 obtain⟨ds,k,e,rfl,h⟩:=a8R h;cases hy.int_inv
 rcases e with rfl|rfl
 ·obtain⟨a,xs,rfl,h1,h2⟩:=hx.list_inv;obtain⟨z,j,z1,z2,z3,z4,z5⟩:=h2.atI h;exact .inl ⟨a,xs,k,z,rfl,rfl,h1.l,z1,q z z5⟩
 ·obtain⟨a,xs,rfl,h1,h2⟩:=hx.tup_inv;obtain⟨z,j,z1,z2,z3,z4,z5⟩:=h2.atI h;exact .inr ⟨a,xs,k,z,rfl,rfl,h1,z1,q z z5⟩
def A8(ha:PX X M a fa ca)(hb:PX X M b fb cb)(hs:a2t b:=by exact λ_ _=>rfl):PX X M (.Subscript a b pos) (e2 C4 fa fb) (.new .i):=by
 obtain⟨ta,pa,qa⟩:=ha.out;obtain⟨tb,pb,qb⟩:=hb.out;refine .mk ⟨_,b1u a7L pa pb hs,λU Y H P F d Q S hf q=>?_⟩;obtain⟨x,y,h1,h2,h3⟩:=C3 hf;obtain⟨d',h3,h4⟩:=bnd h3;obtain⟨rfl,hi⟩:=Q3 h4;exact qa U Y H P F x _ S h1 λv H1 e1 r1=>qb U Y H1 P F y _ (S.grow e1) h2 λw H2 e2 r2=>b9n (r1.den.up e2) r2.den h3 λz hz=>q z H2 (e1.trans e2) (G9 hi hz (S.lst' (e1.trans e2)))
def J3(ha:PX X M a fa (.new .f))(hb:PX X M b fb cb)(hs:a2t b:=by exact λ_ _=>rfl):PX X M (.Subscript a b pos) (e2 dIx fa fb) (.new .f):=by
 obtain⟨ta,pa,qa⟩:=ha.out;obtain⟨tb,pb,qb⟩:=hb.out;refine .mk ⟨_,b1u a7L pa pb hs,λU Y H P F d Q S hf q=>?_⟩;obtain⟨x,y,h1,h2,h3⟩:=C3 hf;refine qa U Y H P F x _ S h1 λv H1 e1 ⟨fp,o,_,_⟩=>qb U Y H1 P F y _ (S.grow e1) h2 λw H2 e2 r2=>?_
 obtain⟨rfl,o⟩:=a8Q o;have o2:Den X.K (cut H2 F) v x:=o.up (B7 e2);obtain⟨ds,k,e,rfl,h⟩:=a8R h3;have fin:∀z,Den X.K (cut H2 F) z d->Q z H2:=λz hz=>q z H2 (e1.trans e2) ⟨[],by simp only[Own,cA];exact⟨trivial,hz⟩,bJ,λa ha=>(nomatch ha)⟩
 have ey:=r2.den.int_inv;rcases e with rfl|rfl
 ·obtain⟨a,xs,rfl,h1,h2⟩:=o2.list_inv;obtain⟨z,j,z1,z2,z3,z4,z5⟩:=h2.atI h;exact .inl ⟨a,xs,k,z,rfl,ey,(V6 h1 i4).l,z1,fin z z5⟩
 ·obtain⟨a,xs,rfl,h1,h2⟩:=o2.tup_inv;obtain⟨z,j,z1,z2,z3,z4,z5⟩:=h2.atI h;exact .inr ⟨a,xs,k,z,rfl,ey,T6 h1 i4,z1,fin z z5⟩
def N3(ha:PX X M a fa (.bor (.l u)))(hb:PX X M b fb cb)(hs:a2t b:=by exact λ_ _=>rfl):PX X M (.Subscript a b pos) (e2 N2 fa fb) (.bor u):=by
 obtain⟨ta,pa,qa⟩:=ha.out;obtain⟨tb,pb,qb⟩:=hb.out;refine .mk ⟨_,b1u a7L pa pb hs,λU Y H P F d Q S hf q=>?_⟩;obtain⟨x,y,h1,h2,h3⟩:=C3 hf;refine qa U Y H P F x _ S h1 λv H1 e1 ⟨fp,o,sub⟩=>qb U Y H1 P F y _ (S.grow e1) h2 λw H2 e2 r2=>?_
 have o2:=o.grow e2;cases x with
 |list ds=>
  cases y with
  |int k=>
   simp only[Own]at o2;rcases o2 with⟨_,hi,_⟩|⟨p,xs,iY,fs,rfl,p1,p2,rfl,p3⟩
   ·simp only[imm]at hi;cases hi
   ·cases p2
    have vm:(ixN ds.length k).bind (λj=>ds[j]?)=cz d:=h3;obtain⟨j,j1,j2⟩:=bnd vm;obtain⟨z,f,pre,post,z1,z2,z3,_,_⟩:=p3.at_ j2;refine .inl ⟨p,xs,k,z,rfl,r2.den.int_inv,.inl (.inl p1),?_,q z H2 (e1.trans e2) ⟨f,z2,λa ha=>sub a ?_⟩⟩
    ·unfold L2.atI;rw[p3.length,j1];exact z1
    ·rw[z3];exact aw _ (ax _ (aO _ ha))
  |_=>cases h3
 |_=>cases h3
end
noncomputable def eCl(g:List D->Option D)(f:EvA):EvE:=λU=>(f U).bind g
section
variable {X:Cx}{M:List Md}{a b e e0:Expr}{es:List Expr}{fa fb:EvE}{f:EvA}{c ca cb:Cat}{u:Ty}{us:List Ty}{pos p:fQ}{x:bI}
def b1M{id:String}{g:List D->Option D}(hc:b1A X (.builtin id) g)(hm:X.mg x=p4)(hv:gL x=cz (.builtin id))(h:PAX X M (e0::es) f)(hg:Gl X x:=by rfl)(hn:x≠"__name__":=by decide)(lX:(x==("__debug__":bI))=xn:=by decide)
  (he:ao (e0::es) X.env=(xn,cG e0 X.env)::ao es X.env:=by rfl) (gh:(cC pos (ao es X.env)).any (·.1)=xn:=by rfl):PX X M (.Call (.Name x p) (e0::es) [] pos) (eCl g f) (.new .i):=by
 obtain⟨r,hr,hs⟩:=hc;obtain⟨t,pa,qa⟩:=h;refine .mk ⟨_,Q0 hr hg hm hv pa hn lX he gh,λU Y H P F d Q S hf q=>?_⟩;obtain⟨ds,h1,hf⟩:=bnd hf;exact qa U Y H P F ds _ S h1 λvs H1 e1 r1=>hs vs H1 ds d Q r1 hf λz hi hd=>q z H1 e1 (G9 hi (hd H1) (S.lst' e1))
def a0D(h:DenAll K H xs [d]):∃v,xs=[v]/\Den K H v d:=by
 obtain⟨v,r,rfl,h1,h2⟩:=h.cons_inv;cases h2.nil_inv
 exact⟨v,rfl,h1⟩
def a5x{K:ae}{H:Hp}{xs:List V}{d e:D}(h:DenAll K H xs [d,e]):∃v w,xs=[v,w]/\Den K H v d/\Den K H w e:=by
 obtain⟨v,r,rfl,h1,h2⟩:=h.cons_inv;obtain⟨w,rfl,h3⟩:=a0D h2;exact⟨v,w,rfl,h1,h3⟩
def F7:List D->Option D
 |[.list ds]=>cz (.int ds.length)
 |[.tuple ds]=>cz (.int ds.length)
 |[.str x]=>if x.length<=aV then cz (.int x.length) else p4
 |_=>p4
def b7g:b1A X (.builtin "len") F7:=by
 refine⟨_,a5l.or a5m,λxs H ds d Q hd hg q=>?_⟩
 match ds,hg with
 |[.list es],hg=>
  cases hg
  obtain⟨v,rfl,h⟩:=a0D hd;obtain⟨a,ys,rfl,h1,h2⟩:=h.list_inv;refine .inl ⟨a,ys,rfl,.inl h1.l,?_⟩;rw[h2.length];exact q _ (by simp only[imm]) λ_=>den_int
 |[.tuple es],hg=>
  cases hg
  obtain⟨v,rfl,h⟩:=a0D hd;obtain⟨a,ys,rfl,h1,h2⟩:=h.tup_inv;refine .inl ⟨a,ys,rfl,.inr h1,?_⟩;rw[h2.length];exact q _ (by simp only[imm]) λ_=>den_int
 |[.str x],hg=>
  have mo:(if x.length<=aV then cz (aJ x.length) else p4)=cz d:=hg;by_cases z:x.length<=aV
  ·rw[aC z]at mo;cases mo
   obtain⟨v,rfl,h⟩:=a0D hd;cases h.str_inv
   exact .inr ⟨x,rfl,z,q _ (by simp only[imm]) λ_=>den_int⟩
  ·rw[aI z]at mo;cases mo
 |[.none],hg|[.bool _],hg|[.int _],hg|[.dict _],hg=>cases hg
 |[],hg=>cases hg
 |d1::_::_,hg=>cases d1<;>cases hg
def a1P:List D->Option (List Bool)
 |[]=>cz []
 |.bool b::r=>(a1P r).map (b::·)
 |_=>p4
theorem a2S:∀{ds:List D} {bs:List Bool} {xs:List V},a1P ds=cz bs->DenAll K H xs ds->xs=bs.map V.bl
 |[],bs,xs,h,q=>by cases h;rw[q.nil_inv];rfl
 |.bool b::r,bs,xs,h,q=>by
  have h':(a1P r).map (b::·)=cz bs:=h;obtain⟨cs,h1,rfl⟩:=eA.mp h';obtain⟨v,rs,rfl,h2,h3⟩:=q.cons_inv;cases h2.bool_inv
  rw[a2S h1 h3];rfl
 |.none::r,bs,xs,h,q|.int _::r,bs,xs,h,q|.str _::r,bs,xs,h,q|.list _::r,bs,xs,h,q|.tuple _::r,bs,xs,h,q|.dict _::r,bs,xs,h,q=>by cases h
def b1N:List D->Option D
 |[.list ds]=>(a1P ds).map λbs=>.bool (bs.all id)
 |_=>p4
open PyProof.Rows in
def a9S(hc:X.calm=rp):CallR X (.builtin "all") (λxs H Q=>∃(p:au) (bs:List Bool),xs=[.ref p]/\SqX X.K H p (bs.map V.bl)/\Q (.bl (bs.all id)) H):=by
 intro pins s Y H xs us Q I r h;obtain⟨p,bs,rfl,hp,q⟩:=h;obtain⟨u,rfl,rx⟩:=vals1 r;cases (show u=be p from rx)
 obtain⟨hz,cQ,n,rv,ho⟩:=hp.ok I;have hl:s.heap.IsList p cQ.toArray:=⟨_,ho,rfl,_,rfl⟩;have hlen:bs.length=cQ.length:=by have:=rv.length;simpa using this
 refine call_all_walk (wpAny_pyIter_list hl ?_);have gN:p≠s.heap.objs.size:=bK (aM ho);refine⟨s.heap.objs.size,[s.heap.objs.size,p],[s.heap.objs.size],_,_,_,λi=>(bs.getD i xn),rfl,Walks.list (A:=X.A.in1) (by simpa using I.ok.hd hc) s.heap.objs.size p gN cQ.toArray,⟨⟨_,aL _ rfl,rfl,rfl⟩,hl.at λo e=>af _ e⟩,?_,?_⟩
 ·intro i v s' Q' E' hP hQ;have hv:cQ[i]?=cz v:=by simpa using hP
  have hi:i<bs.length:=by rw[hlen];exact (aN.mp hv).1
  obtain⟨u,hu,ru⟩:=rv.get (i:=i) (x:=.bl bs[i]) (by simp[hi]);rw[hv]at hu;cases hu
  cases (show v=jW bs[i] from ru)
  refine eK ?_;have e:bs.getD i xn=bs[i]:=by simp[hi]
  have Cy:Q' (bs.getD i xn) s':=hQ;rw[e]at Cy;exact Cy
 ·intro h' tk hk;have e:(aU cQ.toArray.size).all (λi=>bs.getD i xn)=bs.all id:=by
   rw[bx,<-hlen,dJ,bD,bD]
   constructor
   ·intro z b hb;obtain⟨i,hi,rfl⟩:=gR.mp hb;have:=z i (cw.mpr hi);simpa[hi]using this
   ·intro z i hi;have lA:=cw.mp hi;have:=z bs[i] (dt lA);simpa[lA]using this
  rw[e];refine⟨.bl _,H,?_,rfl,q⟩;exact I.kept (t':=tk) λb o e=>hk b o (λz=>by
   have z':=ak.mp z;rw[z']at e;exact absurd (aM e) (dQ _)) (af _ e)
def b7h(hc:X.calm=rp):b1A X (.builtin "all") b1N:=by
 refine⟨_,a9S hc,λxs H ds d Q hd hg q=>?_⟩
 match ds,hg with
 |[.list es],hg=>
  have mo:(a1P es).map (λbs=>dE (bs.all id))=cz d:=hg;obtain⟨bs,h1,rfl⟩:=eA.mp mo;obtain⟨v,rfl,h⟩:=a0D hd;obtain⟨a,ys,rfl,h2,h3⟩:=h.list_inv;rw[a2S h1 h3]at h2;exact⟨a,bs,rfl,h2,q _ (by simp only[imm]) λ_=>den_bool⟩
 |[.none],hg|[.bool _],hg|[.str _],hg|[.dict _],hg|[.int _],hg|[.tuple _],hg=>cases hg
 |[],hg=>cases hg
 |d1::_::_,hg=>cases d1<;>cases hg
def tyD:D->String
 |.int _=>"int"
 |.bool _=>"bool"
 |.list _=>"list"
 |.tuple _=>"tuple"
 |.none=>"NoneType"
 |.str _=>"str"
 |.dict _=>"dict"
def Den.ty{K:ae}{H:Hp}{v:V}:∀{d:D},Den K H v d->(∀ds,d≠.tuple ds)->(∀ds,d≠.list ds)->(∀ds,d≠.dict ds)->TyOf K H v (.type (tyD d))
 |.none,h,_,_,_=>by cases h.none_inv;exact .non
 |.bool _,h,_,_,_=>by cases h.bool_inv;exact .bl _
 |.int _,h,_,_,_=>by cases h.int_inv;exact .int _
 |.str _,h,_,_,_=>by cases h.str_inv;exact .str _
 |.list ds,h,_,q,_=>absurd rfl (q ds)
 |.tuple ds,h,q,_,_=>absurd rfl (q ds)
 |.dict ds,h,_,_,q=>absurd rfl (q ds)
def b9o(K:ae)(T:String)(g:D->Bool):List V->Hp->VK->Prop:=λxs H Q=>∃x d,xs=[x,.ty T]/\Den K H x d/\Q (.bl (g d)) H
def a7M{pins:List (au×gE)}{Y:L2.St}{H:Hp}{s:aq}{A:bL}{E:aj->aq->Prop}{Q:aj->aq->Prop}{cv:aj}{k:Bool}{a:au}{xs:List V}(I:Inv X pins Y H s)(h:SqT X.K H a xs)(e:fM X.K (.type "tuple") cv=cz k)(hq:∀tk,Q (.bool k) {s with toks:=tk}) :
  aG (aT X.prog X.w) A (call (.builtin "isinstance") [.ref a,cv]) Q E s:=by
 obtain⟨cQ,_,⟨o,h1,h2,_⟩,_⟩:=I.tuple h;exact cW AW I.kIn ⟨o,h1,h2⟩ e (λz=>nomatch z) hq
def a7N{pins:List (au×gE)}{Y:L2.St}{H:Hp}{s:aq}{A:bL}{E:aj->aq->Prop}{Q:aj->aq->Prop}{cv:aj}{k:Bool}{a:au}{xs:List V}(I:Inv X pins Y H s)(h:SqX X.K H a xs)(e:fM X.K (.type "list") cv=cz k)(hq:∀tk,Q (.bool k) {s with toks:=tk}) :
  aG (aT X.prog X.w) A (call (.builtin "isinstance") [.ref a,cv]) Q E s:=by
 obtain⟨_,cQ,n,_,h1⟩:=h.ok I;exact cW oO I.kIn ⟨_,h1,rfl⟩ e (λz=>nomatch z) hq
def a7O{pins:List (au×gE)}{Y:L2.St}{H:Hp}{s:aq}{A:bL}{E:aj->aq->Prop}{Q:aj->aq->Prop}{cv:aj}{k:Bool}{a:au}{es:List (D×V×V)}(I:Inv X pins Y H s)(h:H a=cz (c6 a es))(e:fM X.K (.type "dict") cv=cz k)(hq:∀tk,Q (.bool k) {s with toks:=tk}) :
  aG (aT X.prog X.w) A (call (.builtin "isinstance") [.ref a,cv]) Q E s:=by
 obtain⟨⟨_,_,_,o,ents,_,h1,h2,_⟩,_⟩:=(show ObjOk X.prog X.w H s.heap a (c6 a es) from I.hok a _ h);exact cW oP I.kIn ⟨o,h1,h2.1⟩ e (λz=>nomatch z) hq
def a9T{T:String}{g:D->Bool}(hf:∀(K:ae) (d:D),fM K (.type (tyD d)) (.type T)=cz (g d)):CallR X (.builtin "isinstance") (b9o X.K T g):=by
 intro pins s Y H xs us Q I r h;obtain⟨x,d,rfl,hd,q⟩:=h;obtain⟨u,w',rfl,rx,ry⟩:=vals2 r;cases (show w'=ie T from ry)
 by_cases ht:(∀ds,d≠.tuple ds)/\(∀ds,d≠.list ds)/\(∀ds,d≠.dict ds)
 ·exact a9J I rx (hd.ty ht.1 ht.2.1 ht.2.2) (hf X.K d) λtk=>⟨.bl _,H,I.tok tk,rfl,q⟩
 ·cases d with
  |list ds=>
   obtain⟨a,ys,rfl,h1,_⟩:=hd.list_inv;cases (show u=be a from rx)
   exact a7N I h1 (hf X.K (.list ds)) λtk=>⟨.bl _,H,I.tok tk,rfl,q⟩
  |tuple ds=>
   obtain⟨a,ys,rfl,h1,_⟩:=hd.tup_inv;cases (show u=be a from rx)
   exact a7M I h1 (hf X.K (.tuple ds)) λtk=>⟨.bl _,H,I.tok tk,rfl,q⟩
  |dict ds=>
   simp only[Den]at hd;obtain⟨a,es,rfl,h1,_⟩:=hd;cases (show u=be a from rx)
   exact a7O I h1 (hf X.K (.dict ds)) λtk=>⟨.bl _,H,I.tok tk,rfl,q⟩
  |_=>exact absurd ⟨(λds z=>by cases z),(λds z=>by cases z),(λds z=>by cases z)⟩ ht
def isInt:D->Bool
 |.int _=>rp
 |.bool _=>rp
 |_=>xn
def isBool:D->Bool
 |.bool _=>rp
 |_=>xn
def isList:D->Bool
 |.list _=>rp
 |_=>xn
def a5y:D->Bool
 |.tuple _=>rp
 |_=>xn
def a5z{g:D->Bool}(hf:∀(K:ae) (d:D),fM K (.type (tyD d)) (.type T)=cz (g d))(hm:X.mg "isinstance"=p4)(hy:X.mg y=p4)(hb:gL y=cz (.type T))(h:PX X M a fa ca)
  (hg:Gl X "isinstance":=by rfl) (Fg:Gl X y:=by rfl) (EJ:y≠"__name__":=by decide) (vI:(y==("__debug__":bI))=xn:=by decide)
  (he:ao [a,.Name y py] X.env=(xn,cG a X.env)::ao [.Name y py] X.env:=by rfl) (nK:ao [.Name y py] X.env=(xn,cG (.Name y py) X.env)::ao [] X.env:=by rfl) (gh:(cC pos (ao [.Name y py] X.env)).any (·.1)=xn:=by rfl) :
  PX X M (.Call (.Name "isinstance" p) [a,.Name y py] [] pos) (e1 (λd=>cz (.bool (g d))) fa) (.new .i):=by
 obtain⟨ta,pa,qa⟩:=h.out;refine .mk ⟨_,Q0 (a9T hf) hg hm PyProof.Rows.Boot.«isinstance» (k9 pa (k9 (b3X (v:=.ty T) Fg hy hb rfl EJ vI) o7 nK) he) (by decide) (by decide) he gh,λU Y H P F d Q S pG q=>?_⟩;obtain⟨x,h1,pG⟩:=bnd pG;cases pG
 exact qa U Y H P F x _ S h1 λv H1 e1 r1=>⟨v,x,rfl,r1.den,q _ H1 e1 (G9 (by simp only[imm]) den_bool (S.lst' e1))⟩
def b4x(K:ae)(d:D):fM K (.type (tyD d)) (.type "int")=cz (isInt d):=by cases d<;>rfl
def b1O(K:ae)(d:D):fM K (.type (tyD d)) (.type "bool")=cz (isBool d):=by cases d<;>rfl
def a6r(K:ae)(d:D):fM K (.type (tyD d)) (.type "list")=cz (isList d):=by cases d<;>rfl
end
def cutD(ds:List D)(lo hi:Option Int):List D:=(ds.drop (HT.sIx ds.length 0 lo)).take (HT.sIx ds.length ds.length hi-HT.sIx ds.length 0 lo)
abbrev EvO:=List D->Option (Option Int)
noncomputable def oNo:EvO:=λ_=>cz p4
def asI:D->Option Int
 |.int i=>cz i
 |_=>p4
noncomputable def oSo(a:EvE):EvO:=λU=>(a U).bind λd=>(asI d).bind λi=>cz (cz i)
def a0E(h:asI d=cz i):d=.int i:=by
 cases d with
 |int j=>cases h;rfl
 |_=>cases h
def asL:D->Option (List D)
 |.list ds=>cz ds
 |_=>p4
def J9(h:asL d=cz ds):d=.list ds:=by
 cases d with
 |list j=>cases h;rfl
 |_=>cases h
def asS:D->Option (List D)
 |.list ds=>cz ds
 |.tuple ds=>cz ds
 |_=>p4
noncomputable def POX(X:Cx)(M:List Md)(e:Option Expr)(f:EvO):Prop:=
 ∃t,PO X e t/\∀(U:List D) (Y:L2.St) (H P:Hp) (F:List au) (o:Option Int) (Q:Option Int->Hp->Prop),StE X.K M U Y H P F->f U=cz o->(∀H',Same H H'->Q o H')->t Y H Q
noncomputable def eSl(a:EvE)(lo hi:EvO):EvE:=λU=>(a U).bind λx=>(asL x).bind λds=>(lo U).bind λl=>(hi U).bind λh=>cz (.list (cutD ds l h))
noncomputable def eI(a:EvE):EvE:=λU=>(a U).bind b1K
section
variable {X:Cx}{M:List Md}{a b e e0:Expr}{lo hi:Option Expr}{es:List Expr}{fa fb:EvE}{fl fh:EvO}{f:EvA}{c ca cb:Cat}{u:Ty}{us:List Ty}{pos p p2:fQ}{x:bI}
def b1P:POX X M p4 oNo:=⟨_,b4g,λU Y H P F o Q S hf q=>by cases hf;exact q H (Same.refl _)⟩
def b1Q(h:PX X M a fa ca):POX X M (cz a) (oSo fa):=by
 obtain⟨t,p,q⟩:=h.out;refine⟨_,b4h p,λU Y H P F o Q S hf k=>?_⟩;obtain⟨d,h1,sO⟩:=bnd hf;obtain⟨i,h2,sN⟩:=bnd sO;cases a0E h2
 cases sN
 exact q U Y H P F _ _ S h1 λv H1 e1 r1=>⟨i,r1.den.int_inv,k H1 e1⟩
structure MkL (X:Cx) (M:List Md) (e:Expr) (f:EvE) (A:Prop):Prop where
 run:∃t,PE X e t/\∀(U:List D) (Y:L2.St) (H P:Hp) (F:List au) (d:D) (Q:VK),StE X.K M U Y H P F->f U=cz d->
  (∀vs ds H1 l,Same H H1->d=.list ds->DenAll X.K H1 vs ds->(A->DenAll X.K (cut H1 F) vs ds)->H1 l=p4->Q (.ref l) (upd H1 l (.lst vs)))->t Y H Q
theorem MkL.i{f:EvE}{A:Prop}(h:MkL X M e f A):PX X M e (eI f) (.new (.l .i)):=by
 obtain⟨t,p,q⟩:=h.run;refine .mk ⟨t,p,λU Y H P F d Q S hf k=>?_⟩;obtain⟨d',g1,hc⟩:=bnd hf;clear hf;obtain⟨es,rfl,rfl,hi⟩:=a7K hc;refine q U Y H P F _ Q S g1 λvs ds H1 l e1 ed h1 _ hl=>?_
 cases ed
 exact k _ _ (e1.trans (j6 hl _)) (J1 h1 hi e1 hl (S.lst' e1))
def frozen:Cat->Prop
 |.new .f=>True
 |.new .i=>True
 |_=>False
def D5(hc:frozen c)(r:ResR K c H H1 F v d):Den K (cut H1 F) v d:=by
 match c,hc with
 |.new .f,_=>
  obtain⟨fp,o,_⟩:=r;obtain⟨rfl,o⟩:=a8Q o;exact o
 |.new .i,_=>
  obtain⟨fp,o,_⟩:=r;obtain⟨rfl,_,o⟩:=V8 o;exact o
def K8(r:ResR K c H H1 F v (.list ds)):∃a xs,v=.ref a/\SqX K H1 a xs/\DenAll K H1 xs ds/\(frozen c->DenAll K (cut H1 F) xs ds):=by
 by_cases hc:frozen c
 ·obtain⟨a,xs,rfl,k1,k2⟩:=(D5 hc r).list_inv;exact⟨a,xs,rfl,V6 k1 i4,k2.up i4,λ_=>k2⟩
 ·obtain⟨a,xs,rfl,k1,k2⟩:=r.den.list_inv;exact⟨a,xs,rfl,k1,k2,λh=>absurd h hc⟩
def b1R:SlR X (λx lo hi H Q=>∃a xs,x=.ref a/\SqX X.K H a xs/\∀p,H p=p4->Q (.ref p) (upd H p (.lst (a7H xs lo hi)))):=by
 intro pins s Y H x v vl vu lo hi sl Q I rx hs pl pu ⟨a,xs,e,h,q⟩;exact b4l pins s Y H x v vl vu lo hi sl Q I rx hs pl pu ⟨a,xs,e,h.l,q⟩
def a8S(h:DenAll K H vs ds)(lo hi:Option Int):DenAll K H (a7H vs lo hi) (cutD ds lo hi):=by
 unfold a7H cutD;rw[h.length];exact (h.drop _).take _
def b1S(ha:PX X M a fa ca)(hl:POX X M lo fl)(hh:POX X M hi fh):MkL X M (.Subscript a (.Slice lo hi p4 p2) pos) (eSl fa fl fh) (frozen ca):=by
 obtain⟨ta,pa,qa⟩:=ha.out;obtain⟨tl,pl,ql⟩:=hl;obtain⟨th,ph,qh⟩:=hh;refine⟨_,b1t b1R pa pl ph,λU Y H P F d Q S hf q=>?_⟩;obtain⟨x,h1,sO⟩:=bnd hf;obtain⟨ds,h2,sN⟩:=bnd sO;cases J9 h2
 obtain⟨l,h3,AG⟩:=bnd sN;obtain⟨h,h4,vL⟩:=bnd AG;cases vL
 refine qa U Y H P F _ _ S h1 λv H1 e1 r1=>ql U Y H1 P F l _ (S.grow e1) h3 λH2 e2=>qh U Y H2 P F h _ (S.grow (e1.trans e2)) h4 λH3 e3=>?_
 obtain⟨pp,xs,rfl,k1,k2,k3⟩:=K8 (r1.up (e2.trans e3));exact⟨pp,xs,rfl,k1,λz hz=>q _ _ H3 z ((e1.trans e2).trans e3) rfl (a8S k2 l h) (λhc=>a8S (k3 hc) l h) hz⟩
noncomputable def W1(a:EvE):EvE:=λU=>(a U).bind λd=>(asS d).bind λds=>cz (.list ds)
def a5A(hm:X.mg "list"=p4)(ha:PX X M a fa ca)(hg:Gl X "list":=by rfl)(he:ao [a] X.env=(xn,cG a X.env)::ao [] X.env:=by rfl)(gh:(cC pos (ao [] X.env)).any (·.1)=xn:=by rfl) :
  MkL X M (.Call (.Name "list" p) [a] [] pos) (W1 fa) (frozen ca):=by
 obtain⟨ta,pa,qa⟩:=ha.out;refine⟨_,C1 a0x hg hm PyProof.Rows.Boot.«list» (k9 pa o7 he) (by decide) (by decide) he gh,λU Y H P F d Q S hf q=>?_⟩;obtain⟨x,h1,sO⟩:=bnd hf;obtain⟨ds,h2,sN⟩:=bnd sO;cases sN
 refine qa U Y H P F _ _ S h1 λv H1 e1 r1=>?_
 cases x with
 |list es=>
  cases h2
  obtain⟨pp,xs,rfl,k1,k2,k3⟩:=K8 r1;exact⟨pp,xs,rfl,.inl k1.l,λz hz=>q _ _ H1 z e1 rfl k2 k3 hz⟩
 |tuple es=>
  cases h2
  by_cases hc:frozen ca
  ·obtain⟨pp,xs,rfl,k1,k2⟩:=(D5 hc r1).tup_inv;exact⟨pp,xs,rfl,.inr (T6 k1 i4),λz hz=>q _ _ H1 z e1 rfl (k2.up i4) (λ_=>k2) hz⟩
  ·obtain⟨pp,xs,rfl,k1,k2⟩:=r1.den.tup_inv;exact⟨pp,xs,rfl,.inr k1,λz hz=>q _ _ H1 z e1 rfl k2 (λh=>absurd h hc) hz⟩
 |_=>cases h2
noncomputable def H9(a:EvE):EvE:=λU=>(a U).bind λd=>(asS d).bind λds=>V9 (.tuple ds)
def W2(hm:X.mg "tuple"=p4)(ha:PX X M a fa ca)(hg:Gl X "tuple":=by rfl)(he:ao [a] X.env=(xn,cG a X.env)::ao [] X.env:=by rfl)(gh:(cC pos (ao [] X.env)).any (·.1)=xn:=by rfl) :
  PX X M (.Call (.Name "tuple" p) [a] [] pos) (H9 fa) (.new .i):=by
 obtain⟨ta,pa,qa⟩:=ha.out;refine .mk ⟨_,C1 a3W hg hm PyProof.Rows.Boot.«tuple» (k9 pa o7 he) (by decide) (by decide) he gh,λU Y H P F d Q S hf q=>?_⟩;obtain⟨x,h1,sO⟩:=bnd hf;obtain⟨ds,h2,sN⟩:=bnd sO;obtain⟨rfl,hi⟩:=Q3 sN;refine qa U Y H P F _ _ S h1 λv H1 e1 r1=>?_
 cases x with
 |list es=>
  cases h2
  obtain⟨pp,xs,rfl,k1,k2⟩:=r1.den.list_inv;exact⟨pp,xs,rfl,.inl ⟨k1.l,λz hz=>q _ _ (e1.trans (j6 hz _)) (G9 hi (a0C k2 hz) (S.lst' (e1.trans (j6 hz _))))⟩⟩
 |tuple es=>
  cases h2
  obtain⟨pp,xs,rfl,k1,k2⟩:=r1.den.tup_inv;exact⟨pp,xs,rfl,.inr ⟨k1,q _ _ e1 (G9 hi (den_tup k1 k2) (S.lst' e1))⟩⟩
 |_=>cases h2
def b4y:OpR X (fA .Add) (λx y H Q=>∃l b xs zs,x=.ref l/\y=.ref b/\SqX X.K H l xs/\SqX X.K H b zs/\xs.length+zs.length<=aV/\∀p,H p=p4->Q (.ref p) (upd H p (.lst (xs++zs)))):=by
 intro pins s Y H x y v u Q I rx ry h;obtain⟨l,b,xs,zs,rfl,rfl,hH,hB,hz,q⟩:=h;cases rx
 cases ry
 obtain⟨z,cQ,n,r,e⟩:=hH.ok I;obtain⟨z2,sk,n2,r2,e2⟩:=hB.ok I;have hl:=r.length;have rV:=r2.length;refine PySem.P.add_list e e2 ?_ (by rw[bx,bx];lia);have ea:cQ.toArray++sk.toArray=(cQ++sk).toArray:=by simp
 rw[ea];exact⟨.ref _,_,I.lnew (t':=s.toks) (r.append r2) (by rw[a_];lia),rfl,q _ I.fresh⟩
noncomputable def a5B(a b:EvE):EvE:=λU=>(a U).bind λx=>(asL x).bind λds=>(b U).bind λy=>(asL y).bind λes=>if ds.length+es.length<=aV then cz (.list (ds++es)) else p4
def b1T(ha:PX X M a fa ca)(hb:PX X M b fb cb):MkL X M (.BinOp a .Add b pos) (a5B fa fb) (frozen ca/\frozen cb):=by
 obtain⟨ta,pa,qa⟩:=ha.out;obtain⟨tb,pb,qb⟩:=hb.out;refine⟨_,b1n b4y pa pb,λU Y H P F d Q S hf q=>?_⟩;obtain⟨x,h1,sO⟩:=bnd hf;obtain⟨ds,h2,sN⟩:=bnd sO;cases J9 h2
 obtain⟨y,h3,AG⟩:=bnd sN;obtain⟨es,h4,vL⟩:=bnd AG;cases J9 h4
 by_cases hz:ds.length+es.length<=aV
 ·rw[aC hz]at vL;cases vL
  refine qa U Y H P F _ _ S h1 λv H1 e1 r1=>qb U Y H1 P F _ _ (S.grow e1) h3 λw H2 e2 r2=>?_
  obtain⟨pp,xs,rfl,k1,k2,k3⟩:=K8 (r1.up e2);obtain⟨qq,ys,rfl,j1,j2,j3⟩:=K8 r2;exact⟨pp,qq,xs,ys,rfl,rfl,k1,j1,by rw[k2.length,j2.length];exact hz,λz hz=>q _ _ H2 z (e1.trans e2) rfl (k2.append j2) (λhc=>(k3 hc.1).append (j3 hc.2)) hz⟩
 ·rw[aI hz]at vL;cases vL
def spD(K:ae)(n:Nat)(m:List D->Option D)(u:Ty):Sp:=λvs H Q _=>∃ds d,vs.length=n/\DenAll K H vs ds/\m ds=cz d/\∀v H' fp,Same H H'->Own K H' fp u v d fp->fp.Nodup->(∀a∈fp,H a=p4)->Q v H'
def b4z(W:Has X.prog X.w X.K X.mg X.base x k ps (spD X.K n m u))(hr:Room k X.A)(h:PAX X M (e0::es) f)(hu:u.shut=rp:=by rfl)(hl:(e0::es).length=n:=by rfl)(hfl:∀U ds,f U=cz ds->ds.length=(e0::es).length)
  (hg:Gl X x:=by rfl) (lX:(x==("__debug__":bI))=xn:=by decide) (he:ao (e0::es) X.env=(xn,cG e0 X.env)::ao es X.env:=by rfl) (gh:(cC pos (ao es X.env)).any (·.1)=xn:=by rfl) :
  PX X M (.Call (.Name x p) (e0::es) [] pos) (eCl m f) (.new u):=by
 obtain⟨t,pa,qa⟩:=h;refine .mk ⟨_,a5o W hr pa hg lX he gh,λU Y H P F d Q S hf q=>?_⟩;obtain⟨ds,h1,hf⟩:=bnd hf;refine qa U Y H P F ds _ S h1 λvs H1 e1 r1=>?_
 show spD X.K n m u (vs++[]) H1 Q E0;rw[bM];refine⟨ds,d,by rw[r1.length,hfl U ds h1,hl],r1,hf,λv H' fp e o nd fr=>q v H' (e1.trans e) ⟨fp,o.shut_out (λa ha=>?_) u hu,nd,λa ha=>e1.free (fr a ha)⟩⟩;rcases az.mp ha with z|z
 ·exact o.lst u a z
 ·exact S.lst' (e1.trans e) a z
end
structure Walks (J:It) (Pr:Hp->Prop) (xs:List V):Prop where
 go:∀i H,Pr H->i<xs.length->J.go i H
 stop:∀i H,Pr H->xs.length<=i->J.stop i H
 yld:∀i H x H',Pr H->i<xs.length->J.yld i H x H'->H'=H/\xs[i]?=cz x
def E2:Walks (Itl K a) (λH=>SqL K H a xs) xs where
 go:=λi H h hi=>⟨xs,xs[i],h,by simp[hi]⟩
 stop:=λi H h hi=>⟨xs,h,hi⟩
 yld:=λi H x H' h _ y=>⟨y.1,y.2 xs h⟩
def a9U:Walks (Itt K a) (λH=>SqT K H a xs) xs where
 go:=λi H h hi=>⟨xs,xs[i],h,by simp[hi]⟩
 stop:=λi H h hi=>⟨xs,h,hi⟩
 yld:=λi H x H' h _ y=>⟨y.1,y.2 xs h⟩
def a6s:Walks (Itr lo n) (λ_=>True) ((aU n).map λ(k:Nat)=>V.int (lo+k)) where
 go:=λi H h hi=>by show i<n;simpa using hi
 stop:=λi H h hi=>by show n<=i;simpa using hi
 yld:=λi H x H' h hi y=>by
  obtain⟨e,y⟩:=y;refine⟨e,?_⟩;have lA:i<n:=by simpa using hi
  rw[y];simp[lA]
noncomputable def PIX(X:Cx)(M:List Md)(tg iter:Expr)(f:EvA):Prop:=
 ∃wi,PI X tg iter wi/\∀(U:List D) (Y:L2.St) (H P:Hp) (F:List au) (ds:List D) (R:It->Hp->Prop),StE X.K M U Y H P F->f U=cz ds->
  (∀J xs Pr H1,Same H H1->Walks J Pr xs->(∀H2,Same (cut H1 F) H2->Pr H2)->DenAll X.K (cut H1 F) xs ds->R J H1)->wi Y H R
noncomputable def iL(a:EvE):EvA:=λU=>(a U).bind asL
noncomputable def iT(a:EvE):EvA:=λU=>(a U).bind λd=>match d with
 |.tuple ds=>cz ds
 |_=>p4
def B8(lo:Int)(n:Nat):List D:=(aU n).map λ(k:Nat)=>.int (lo+k)
noncomputable def iR(a:EvE):EvA:=λU=>(a U).bind λd=>(asI d).bind λn=>if -(2^62)<=n/\n<2^62 then cz (B8 0 n.toNat) else p4
noncomputable def iI(f:EvA):EvA:=λU=>(f U).bind λds=>if e7 ds then cz ds else p4
section
variable {X:Cx}{M:List Md}{a b e tg iter:Expr}{fa fb:EvE}{f:EvA}{ca cb:Cat}{pos p:fQ}
def C9(h:PX X M a fa ca)(hc:frozen ca:=by trivial):PIX X M tg a (iL fa):=by
 obtain⟨t,p,q⟩:=h.out;refine⟨_,a5i p,λU Y H P F ds R S hf k=>?_⟩;obtain⟨d,h1,h2⟩:=bnd hf;cases J9 h2
 refine q U Y H P F _ _ S h1 λv H1 e1 r1=>?_
 obtain⟨aa,xs,rfl,k1,k2⟩:=(D5 hc r1).list_inv;exact⟨aa,rfl,⟨xs,(V6 k1 i4).l⟩,k _ xs _ H1 e1 E2 (λH2 e2=>(V6 k1 e2).l) k2⟩
def b4A(h:PX X M a fa ca)(hc:frozen ca:=by trivial):PIX X M tg a (iT fa):=by
 obtain⟨t,p,q⟩:=h.out;refine⟨_,b6M p,λU Y H P F ds R S hf k=>?_⟩;obtain⟨d,h1,h2⟩:=bnd hf;cases d with
 |tuple es=>
  cases h2
  refine q U Y H P F _ _ S h1 λv H1 e1 r1=>?_
  obtain⟨aa,xs,rfl,k1,k2⟩:=(D5 hc r1).tup_inv;exact⟨aa,rfl,⟨xs,T6 k1 i4⟩,k _ xs _ H1 e1 a9U (λH2 e2=>T6 k1 e2) k2⟩
 |_=>cases h2
def a1l:DenAll K H ((aU n).map λ(k:Nat)=>V.int (lo+k)) (B8 lo n):=by
 have:∀l:List Nat,DenAll K H (l.map λ(k:Nat)=>V.int (lo+k)) (l.map λ(k:Nat)=>aJ (lo+k)):=by
  intro l
  induction l with
  |nil=>exact denAll_nil
  |cons x l ih=>exact denAll_cons den_int ih
 exact this _
def A1(hm:X.mg "range"=p4)(h:PX X M a fa ca)(hg:Gl X "range":=by rfl)(he:ao [a] X.env=[(xn,cG a X.env)]:=by rfl)(nK:ao [a] X.env=(xn,cG a X.env)::ao [] X.env:=by rfl) :
  PIX X M tg (.Call (.Name "range" p) [a] [] pos) (iR fa):=by
 obtain⟨t,p,q⟩:=h.out;refine⟨_,a9G hg hm (k9 p o7 nK) he,λU Y H P F ds R S hf k=>?_⟩;obtain⟨d,h1,g1⟩:=bnd hf;obtain⟨n,h2,g2⟩:=bnd g1;cases a0E h2
 by_cases c:-(2^62)<=n/\n<2^62
 ·rw[aC c]at g2;cases g2
  exact q U Y H P F _ _ S h1 λv H1 e1 r1=>⟨n,by rw[r1.den.int_inv],c.1,c.2,k _ _ _ H1 e1 a6s (λ_ _=>trivial) a1l⟩
 ·rw[aI c]at g2;cases g2
def PIX.i(h:PIX X M tg iter f):PIX X M tg iter (iI f):=by
 obtain⟨wi,p,q⟩:=h;refine⟨wi,p,λU Y H P F ds R S hf k=>?_⟩;obtain⟨es,h1,g1⟩:=bnd hf;by_cases c:e7 es=rp
 ·rw[aC c]at g1;cases g1
  exact q U Y H P F _ R S h1 k
 ·rw[aI c]at g1;cases g1
end
def TgR(K:ae)(g:TG)(n:Nat)(pt:D->Option (List D)):Prop:=
 ∀(H Hc:Hp) (x:V) (d:D) (ds:List D) (Y:L2.St) (Q:L2.St->Hp->Prop),Same Hc H->Den K Hc x d->pt d=cz ds->n<=Y.length->(∀vs,DenAll K Hc vs ds->vs.length=n->Q (vs.map cz++Y.drop n) H)->g x Y H Q
def pt1(d:D):Option (List D):=cz [d]
def pt2:D->Option (List D)
 |.tuple [a,b]=>cz [a,b]
 |_=>p4
def K9:TgR K (Z6 0) 1 pt1:=by
 intro H Hc x d ds Y Q e hd hp hn k;cases hp
 cases Y with
 |nil=>simp at hn
 |cons o Y=>exact k [x] (denAll_cons hd denAll_nil) rfl
noncomputable def O4(pt:D->Option (List D))(t:EvT)(g:EvE)(cs:List D):List D->Option (List D)
 |[]=>cz []
 |d::ds=>(pt d).bind λbs=>(t (bs++cs)).bind λk=>if k then (g (bs++cs)).bind λy=>(O4 pt t g cs ds).bind λys=>cz (y::ys) else O4 pt t g cs ds
noncomputable def n8(fi:EvA)(js:List Nat)(pt:D->Option (List D))(t:EvT)(g:EvE):EvE:=λU=>(fi U).bind λds=>if ds.length<=1000000 then (O4 pt t g (js.map λj=>U.getD j .none) ds).bind λys=>cz (.list ys) else p4
noncomputable def tT:EvT:=λ_=>cz rp
def O5(m:Md)(n:Nat)(M:List Md)(js:List Nat):List Md:=aS n m++js.map λj=>M.getD j .dead
section
variable {K:ae}{J:It}{Pr:Hp->Prop}{xs:List V}{Dl:au}{g:TG}{tt:TT}{te:TE}{Y:L2.St}{H:Hp}{R:Hp->Prop}
def a9V(hw:Walks J Pr xs)(Pv:Nat->List V->L2.St->Hp->Prop)(h0:Pv 0 [] Y (upd H Dl (.lst [])))(hp:∀i ys Y H,Pv i ys Y H->Pr H)
  (hs:∀i x ys Y H,xs[i]?=cz x->Pv i ys Y H->g x Y H λY3 H3=>tt Y3 H3 λb H4=>if b=rp then te Y3 H4 λy H5=>H5 Dl=cz (.lst ys)/\ys.length<aV/\Pv (i+1) (ys++[y]) Y3 (upd H5 Dl (.lst (ys++[y]))) else Pv (i+1) ys Y3 H4)
  (hd:∀ys Y H,Pv xs.length ys Y H->R H) :
  ∃W:Nat->Nat->List V->L2.St->Hp->Prop,(∃m,W 0 m [] Y (upd H Dl (.lst [])))/\∀i m ys Y' H',W i m ys Y' H'->(J.stop i H'/\R H')\/
   (J.go i H'/\∃(N:V->L2.St->Hp->Prop) (NO:L2.St->Hp->Prop),(∀y Y3 H4,N y Y3 H4->H4 Dl=cz (.lst ys)/\ys.length<aV/\∃m',m'<m/\W (i+1) m' (ys++[y]) Y3 (upd H4 Dl (.lst (ys++[y]))))/\
    (∀Y3 H4,NO Y3 H4->∃m',m'<m/\W (i+1) m' ys Y3 H4)/\∀x H2,J.yld i H' x H2->g x Y' H2 λY3 H3=>tt Y3 H3 λb H4=>if b=rp then te Y3 H4 λy H5=>N y Y3 H5 else NO Y3 H4):=by
 refine⟨λi m ys Y H=>m=xs.length-i/\i<=xs.length/\Pv i ys Y H,⟨xs.length,by simp,cj _,h0⟩,?_⟩;rintro i m ys Y H ⟨rfl,hi,p⟩;have q:=hp i ys Y H p;by_cases gX:i<xs.length
 ·refine .inr ⟨hw.go i H q gX,λy Y3 H4=>H4 Dl=cz (.lst ys)/\ys.length<aV/\Pv (i+1) (ys++[y]) Y3 (upd H4 Dl (.lst (ys++[y]))),λY3 H4=>Pv (i+1) ys Y3 H4,λy Y3 H4 ⟨r1,r2,r3⟩=>⟨r1,r2,xs.length-(i+1),by lia,rfl,gX,r3⟩,λY3 H4 r3=>⟨xs.length-(i+1),by lia,rfl,gX,r3⟩,λx H' y=>?_⟩;obtain⟨e,yy⟩:=hw.yld i H x H' q gX y;subst e;exact hs i x ys Y _ yy p
 ·have e:i=xs.length:=by lia
  subst e;exact .inl ⟨hw.stop _ H q (ay _),hd ys Y H p⟩
end
def b1U{js:List Nat}(S:StE K M U Y H P F)(hm:m=.i\/m=.f)(hv:DenAll K (cut H F) vs bs)(hi:m=.i->e7 bs=rp)(hn:vs.length=n)
  (hY:Yb=vs.map cz++js.map λj=>(Y[j]?).getD p4):StE K (O5 (.own m) n M js) (bs++js.map λj=>U.getD j .none) Yb H P F:=by
 obtain⟨G,h1,h3⟩:=S.all;obtain⟨G',q,hq⟩:=h1.pick h3 js;refine⟨⟨G',?_,hq⟩,S.lst,S.prot⟩;subst hY hn;unfold O5;have key:∀{vs:List V} {bs:List D},DenAll K (cut H F) vs bs->(m=.i->e7 bs=rp)->StAll K H F (aS vs.length (.own m)++js.map λj=>M.getD j .dead) (bs++js.map λj=>U.getD j .none) (vs.map cz++js.map λj=>(Y[j]?).getD p4) G':=by
  intro vs
  induction vs with
  |nil=>
   intro bs h _;have hl:=h.length;have:bs=[]:=gq.mp (by simpa using hl.symm);subst this;exact q
  |cons v vs ih=>
   intro bs h hi;cases bs with
   |nil=>have:=h.length;simp at this
   |cons b bs=>
    obtain⟨v',r,e,h4,h5⟩:=h.cons_inv;cases e
    have:=j9 (K:=K) (H:=H) (F:=F) (m:=.own m) (d:=b) (o:=cz v) (f:=[]) ⟨v,rfl,by
     rcases hm with rfl|rfl
     ·have:=hi rfl;simp only[e7,ar]at this;simp only[Own];exact⟨trivial,this.1,h4⟩
     ·simp only[Own];exact⟨trivial,h4⟩⟩ (ih h5 λe=>by have:=hi e;simp only[e7,ar]at this;exact this.2)
    simpa[jP]using this
 exact key hv hi
def a7P(h:O4 pt t g cs (d::ds)=cz rs) :
  ∃bs k,pt d=cz bs/\t (bs++cs)=cz k/\((k=rp/\∃y ys,g (bs++cs)=cz y/\O4 pt t g cs ds=cz ys/\rs=y::ys)\/(k=xn/\O4 pt t g cs ds=cz rs)):=by
 simp only[O4]at h;obtain⟨bs,h1,g1⟩:=bnd h;obtain⟨k,h2,g2⟩:=bnd g1;refine⟨bs,k,h1,h2,?_⟩;cases k with
 |true=>
  rw[aC rfl]at g2;obtain⟨y,h3,g3⟩:=bnd g2;obtain⟨ys,h4,g4⟩:=bnd g3;cases g4
  exact .inl ⟨rfl,y,ys,h3,h4,rfl⟩
 |false=>
  rw[aI bo]at g2;exact .inr ⟨rfl,g2⟩
section
variable {X:Cx}{M:List Md}{tn ys:List bI}{js:List Nat}{scope:gJ}{elt tg iter:Expr}{ifs:List Expr}{pos:fQ}{g:TG}{n:Nat}{pt:D->Option (List D)}{fi:EvA}{ft:EvT}{fe:EvE}{u m:Ty}
def a1m(hi:∀(U:List D) (Y:L2.St) (H P:Hp) (F:List au) (ds:List D) (R:It->Hp->Prop),StE X.K M U Y H P F->fi U=cz ds->
   (∀J xs Pr H1,Same H H1->Walks J Pr xs->(∀H2,Same (cut H1 F) H2->Pr H2)->DenAll X.K (cut H1 F) xs ds->R J H1)->wi Y H R)
  (hg:TgR X.K g n pt) (hm:m=.i\/m=.f) (qu:m=.i->∀U ds,fi U=cz ds->∀d∈ds,∀bs,pt d=cz bs->e7 bs=rp) (uH:tn.length=n)
  (S:StE X.K M U Y H P F) (hf:n8 fi js pt ft fe U=cz d) (q:∀v H',Same H H'->ResR X.K (.new (.l u)) H H' F v d->Q v H') :
  a5p wi g (spT X.K (O5 (.own m) n M js) ft) (spE X.K (O5 (.own m) n M js) fe (.new u)) (a1i tn js) Y H Q:=by
 obtain⟨ds,h1,g1⟩:=bnd hf;by_cases hz:ds.length<=1000000
 ·rw[aC hz]at g1;obtain⟨res,h2,g2⟩:=bnd g1;cases g2
  refine hi U Y H P F ds _ S h1 λJ xs Pr H1 e1 hw uL hx Dl hD=>?_
  have qK:=hx.length;have HQ:Dl∉F:=λz=>by obtain⟨zs,w⟩:=S.lst' e1 Dl z;rw[hD]at w;cases w
  refine a9V hw (λi ys Y' H'=>(∃os:L2.St,os.length=n/\Y'=os++js.map λj=>(Y[j]?).getD p4)/\H' Dl=cz (.lst ys)/\Same H1 H'/\∃(fp:List au) (zs rs:List D),ListAll (Own X.K H' (Dl::fp++F) u) ys zs fp/\fp.Nodup/\(∀a∈fp,H1 a=p4)/\Dl∉fp/\
    O4 pt ft fe (js.map λj=>U.getD j .none) (ds.drop i)=cz rs/\res=zs++rs/\ys.length<=i) ?_ ?_ ?_ ?_
  ·exact⟨⟨_,by rw[gF];exact uH,rfl⟩,g9,j6 hD _,[],[],res,l7,bJ,λa ha=>(nomatch ha),λh=>(nomatch h),h2,rfl,ay _⟩
  ·rintro i ys Y' H' ⟨_,_,e,_⟩;exact uL H' (i4.trans e)
  ·rintro i x ys Y' H' pA ⟨⟨os,ho,rfl⟩,vK,e2,fp,zs,rs,jV,kc,sI,rD,hc,q_,yb⟩;obtain⟨d,ro,_⟩:=hx.getV pA;have mX:i<ds.length:=(aN.mp ro).1;have mH:ds.drop i=d::ds.drop (i+1):=by
    rw[cB mX]
    congr 1;exact (aN.mp ro).2
   rw[mH]at hc;obtain⟨bs,k,BY,rT,ED⟩:=a7P hc;have hfl:∀a∈Dl::fp,∃zs:MuO,H' a=cz zs.1:=λa ha=>by
    rcases aF.mp ha with z|z
    ·subst z;exact⟨⟨.lst ys,trivial⟩,vK⟩
    ·exact jV.lst (u:=u) (λv d f q=>q.lst u) a z
   have pF:∀a∈Dl::fp,H1 a=p4:=λa ha=>by
    rcases aF.mp ha with z|z
    ·subst z;exact hD
    ·exact sI a z
   have S1:StE X.K M U Y H' P (Dl::fp++F):=(S.grow e1).more (fp:=Dl::fp) e2 pF hfl;have xq:DenAll X.K (cut H' (Dl::fp++F)) xs ds:=hx.up (a0A (fp:=Dl::fp) e2 pF);obtain⟨d',xj,sL⟩:=xq.getV pA;rw[ro]at xj;cases xj
   refine hg H' _ x d bs _ _ i4 sL BY (by rw[a_,ho];lia) λvs tL zA=>?_
   rw[List.drop_append_of_le_length (by lia),List.drop_of_length_le (by lia),cA];have SB:StE X.K (O5 (.own m) n M js) (bs++js.map λj=>U.getD j .none) (vs.map cz++js.map λj=>(Y[j]?).getD p4) H' P (Dl::fp++F):=
    b1U S1 hm tL (λe=>qu e U ds h1 d (bz ro) bs BY) zA rfl
   refine⟨_,P,_,k,SB,rT,λH3 e3=>?_⟩;rcases ED with⟨rfl,y,rest,EC,zP,rfl⟩|⟨rfl,zP⟩
   ·refine a6m ⟨_,P,_,y,SB.grow e3,EC,λv H4 e4 ⟨gp,o,nd,fr⟩=>?_⟩;have yH:=e3.trans e4;have Cj:Dl∉gp:=λz=>by have w:=fr Dl z;rw[e3 _ _ vK]at w;cases w
    have Fj:∀a∈gp,a∉fp:=λa ha z=>by
     obtain⟨zs,w⟩:=hfl a (aw _ z);have w2:=fr a ha;rw[e3 _ _ w]at w2;cases w2
    have jT:∀a,a∈Dl::(fp++gp)++F->a∈gp++(Dl::fp++F):=λa ha=>by
     simp only[bw,aF,az]at ha ⊢;rcases ha with z|(z|z)|z
     ·exact .inr (.inl z)
     ·exact .inr (.inr (.inl z))
     ·exact .inl z
     ·exact .inr (.inr (.inr z))
    have Au:Same (cut H' (Dl::fp++F)) (cut (upd H4 Dl (.lst (ys++[v]))) (Dl::(fp++gp)++F)):=λa o' ha=>by
     obtain⟨n1,n2⟩:=p5 ha;have gN:a≠Dl:=λz=>n1 (by rw[z];exact aO _ av)
     refine j5 (λz=>?_) (by rw[f7 gN];exact yH _ _ n2);rcases az.mp (jT a z) with w|w
     ·have:=fr a w;rw[e3 _ _ n2]at this;cases this
     ·exact n1 w
    have FG:Same (cut H4 (gp++(Dl::fp++F))) (cut (upd H4 Dl (.lst (ys++[v]))) (Dl::(fp++gp)++F)):=λa o' ha=>by
     obtain⟨n1,n2⟩:=p5 ha;have gN:a≠Dl:=λz=>n1 (by rw[z];exact ax _ (aO _ av))
     exact j5 (λz=>n1 (jT a z)) (by rw[f7 gN];exact n2)
    refine⟨yH _ _ vK,?_,⟨_,by rw[ag];exact zA,rfl⟩,g9,?_,fp++gp,zs++[y],rest,?_,?_,?_,?_,zP,by rw[q_,bg];rfl,by rw[a_];simp;lia⟩
    ·exact iA (cU yb (cU (eB mX) hz)) (by rw[cJ];decide)
    ·exact b1x (e2.trans yH) hD _
    ·refine (l5 Au jV λa ha=>?_).append ?_
     ·rw[f7 (show a≠Dl from λz=>rD (z▸ha))];obtain⟨zs,w⟩:=hfl a (aw _ ha);rw[w,yH _ _ w]
     ·have:=l0 (R:=Own X.K (upd H4 Dl (.lst (ys++[v]))) (Dl::(fp++gp)++F) u) (o.frame FG u λa ha=>f7 (λz=>Cj (z▸ha))) l7
      rwa[bM]at this
    ·rw[bh];exact⟨kc,nd,λa ha b hb e=>Fj b hb (e▸ha)⟩
    ·intro a ha;rcases az.mp ha with z|z
     ·exact sI a z
     ·exact (e2.trans e3).free (fr a z)
    ·intro z;rcases az.mp z with w|w
     ·exact rD w
     ·exact Cj w
   ·refine a6l ?_;have Au:Same (cut H' (Dl::fp++F)) (cut H3 (Dl::fp++F)):=B7 e3;refine⟨⟨_,by rw[ag];exact zA,rfl⟩,e3 _ _ vK,e2.trans e3,fp,zs,rs,l5 Au jV λa ha=>?_,kc,sI,rD,zP,q_,by lia⟩;obtain⟨zs,w⟩:=hfl a (aw _ ha);rw[w,e3 _ _ w]
  ·rintro ys Y' H' ⟨_,vK,e2,fp,zs,rs,jV,kc,sI,rD,hc,q_,_⟩;rw[qK,jr]at hc;cases hc
   rw[bM]at q_;subst q_;refine q (.ref Dl) H' (e1.trans e2) ⟨Dl::fp,?_,bB.mpr ⟨rD,kc⟩,λa ha=>?_⟩
   ·simp only[Own];exact .inr ⟨Dl,ys,res,fp,rfl,vK,rfl,rfl,jV⟩
   ·rcases aF.mp ha with z|z
    ·subst z;exact e1.free hD
    ·exact e1.free (sI a z)
 ·rw[aI hz]at g1;cases g1
def a0F(hc:X.calm=rp)(hi:PIX X M tg iter fi)(C:T5 scope X.env.kindOf ys js X.N=rp)(hg:∀cl Cl s H fp,PG (K3 X (tn++ys) scope cl Cl s H fp) tg g)(sH:TgR X.K g n pt)(hm:m=.i\/m=.f)
  (qu:m=.i->∀U ds,fi U=cz ds->∀d∈ds,∀bs,pt d=cz bs->e7 bs=rp) (uH:tn.length=n)
  (ht:∀cl Cl s H fp,PTs (K3 X (tn++ys) scope cl Cl s H fp) ifs (spT X.K (O5 (.own m) n M js) ft)) (he:∀cl Cl s H fp,PX (K3 X (tn++ys) scope cl Cl s H fp) (O5 (.own m) n M js) elt fe (.new u))
  (hs:∀x,dF iter X.env x=pure x:=by intro _;rfl):PX X M (.ListComp elt [⟨tg,iter,ifs,0⟩] scope pos) (n8 fi js pt ft fe) (.new (.l u)):=by
 obtain⟨wi,pi,qi⟩:=hi;exact .mk ⟨_,b1y (te:=spE X.K (O5 (.own m) n M js) fe (.new u)) hc pi C hg ht he hs,λU Y H P F d Q S hf q=>a1m qi sH hm qu uH S hf q⟩
def X6:∀{X':Cx} {M':List Md},PTs X' [] (spT X'.K M' tT):=λ{X' M'} pins s Y H Q I ⟨U,P,F,b,S,hb,q⟩=>by
 cases hb
 exact b4n pins s Y H Q I (q H (Same.refl _))
def a7Q(h:PTX X' M' c f):PTs X' [c] (spT X'.K M' f):=b4o h
def a6t:(Ty.f=Ty.i)->∀(U ds:List D),fi U=cz ds->∀d∈ds,∀bs,pt d=cz bs->e7 bs=rp:=λh=>nomatch h
def a8T:(Ty.i=Ty.i)->∀(U ds:List D),iI fi U=cz ds->∀d∈ds,∀bs,pt1 d=cz bs->e7 bs=rp:=λ_ U ds h d hd bs hb=>by
 obtain⟨es,_,g1⟩:=bnd h;by_cases c:e7 es=rp
 ·rw[aC c]at g1;cases g1
  cases hb
  simp only[e7,ju];exact E1 c hd
 ·rw[aI c]at g1;cases g1
def T9(lo:Int)(n:Nat):e7 (B8 lo n)=rp:=by
 have:∀l:List Nat,e7 (l.map λ(k:Nat)=>aJ (lo+k))=rp:=by
  intro l
  induction l with
  |nil=>simp only[cV,e7]
  |cons x l ih=>simp only[aA,e7,imm,ih,gg]
 exact this _
def b6a:(Ty.i=Ty.i)->∀(U ds:List D),iR fa U=cz ds->∀d∈ds,∀bs,pt1 d=cz bs->e7 bs=rp:=λ_ U ds h d hd bs hb=>by
 obtain⟨x,h1,g1⟩:=bnd h;obtain⟨k,h2,g2⟩:=bnd g1
 split at g2
 ·cases g2
  cases hb
  simp only[e7,ju];exact E1 (T9 _ _) hd
 ·cases g2
end
section
variable {K:ae}{H H' P:Hp}{F F':List au}
theorem StAll.split:∀{A B:List Md} {U:List D} {Y:L2.St} {G:List au},StAll K H F (A++B) U Y G->∃U1 U2 Y1 Y2 G1 G2,U=U1++U2/\Y=Y1++Y2/\G=G1++G2/\StAll K H F A U1 Y1 G1/\StAll K H F B U2 Y2 G2
 |[],B,U,Y,G,h=>⟨[],U,[],Y,[],G,rfl,rfl,rfl,L7,h⟩
 |m::A,B,_,_,_,h=>by
  simp only[bw,StAll]at h;obtain⟨d,U,o,Y,f,g,rfl,rfl,rfl,h1,h2⟩:=h;obtain⟨U1,U2,Y1,Y2,G1,G2,rfl,rfl,rfl,h3,h4⟩:=StAll.split h2;exact⟨d::U1,U2,o::Y1,Y2,f++G1,G2,rfl,rfl,by rw[bg],j9 h1 h3,h4⟩
theorem StAll.join:∀{A B:List Md} {U1 U2:List D} {Y1 Y2:L2.St} {G1 G2:List au},StAll K H F A U1 Y1 G1->StAll K H F B U2 Y2 G2->StAll K H F (A++B) (U1++U2) (Y1++Y2) (G1++G2)
 |[],B,_,_,_,_,_,_,h,q=>by
  simp only[StAll]at h;obtain⟨rfl,rfl,rfl⟩:=h;exact q
 |m::A,B,_,_,_,_,_,_,h,q=>by
  simp only[StAll]at h;obtain⟨d,U,o,Y,f,g,rfl,rfl,rfl,h1,h2⟩:=h;rw[bg];exact j9 h1 (StAll.join h2 q)
def a6u{α:Type}{a b c d:List α}(h:a++b=c++d)(hl:a.length=c.length):a=c/\b=d:=List.append_inj h hl
def StAll.splitAt{A B:List Md}{U1 U2:List D}{Y1 Y2:L2.St}(h:StAll K H F (A++B) (U1++U2) (Y1++Y2) G)(hU:U1.length=A.length)(hY:Y1.length=A.length):∃G1 G2,G=G1++G2/\StAll K H F A U1 Y1 G1/\StAll K H F B U2 Y2 G2:=by
 obtain⟨r1,r2,s1,s2,G1,G2,e1,e2,e3,h1,h2⟩:=h.split;obtain⟨l1,l2⟩:=h1.len;obtain⟨rfl,rfl⟩:=a6u e1 (by lia);obtain⟨rfl,rfl⟩:=a6u e2 (by lia);exact⟨G1,G2,e3,h1,h2⟩
theorem a0G:∀{us:List Ty} {vs:List V} {ds:List D} {G:List au},StAll K H F (us.map Md.own) ds (vs.map cz) G->OwnTs K H F us vs ds G
 |[],vs,ds,G,h=>by
  simp only[cV,StAll]at h;obtain⟨rfl,e,rfl⟩:=h;have:vs=[]:=by simpa using e
  subst this;simp only[OwnTs];exact⟨trivial,trivial,trivial⟩
 |u::us,vs,ds,G,h=>by
  simp only[aA,StAll]at h;obtain⟨d,U,o,Y,f,g,rfl,e,rfl,⟨v,rfl,h1⟩,h2⟩:=h;cases vs with
  |nil=>simp at e
  |cons v' vs=>
   simp only[aA,jK,CW]at e;obtain⟨rfl,rfl⟩:=e;simp only[OwnTs];exact⟨v',vs,d,U,f,g,rfl,rfl,rfl,h1,a0G h2⟩
end
def Pend(K:ae)(Mp:List Md)(Up:List D)(Yp:L2.St)(M:List Md)(U:List D)(Y:L2.St)(H P:Hp)(F:List au):Prop:=
 Up.length=Mp.length/\Yp.length=Mp.length/\StR K (Mp++M) (Up++U) (Yp++Y) H P F
section
variable {K:ae}{Mp M:List Md}{Up U:List D}{Yp Y:L2.St}{H H' P:Hp}{F:List au}
def Pend.e(h:Pend K Mp Up Yp M U Y H P F):StE K M U Y H P F:=by
 obtain⟨l1,l2,S⟩:=h;obtain⟨G,h1,h2,h3⟩:=S.all;obtain⟨G1,G2,rfl,_,h4⟩:=h1.splitAt l1 l2;exact⟨⟨G2,h4,λa ha=>h3 a (ax _ ha)⟩,S.lst,S.prot⟩
theorem Pend.grow(h:Pend K Mp Up Yp M U Y H P F)(e:Same H H'):Pend K Mp Up Yp M U Y H' P F:=⟨h.1,h.2.1,h.2.2.grow e⟩
def Pend.new(h:Pend K Mp Up Yp M U Y H P F)(e:Same H H')(o:Own K H' (fp++F) u v d fp)(nd:fp.Nodup)(fr:∀a∈fp,H a=p4):Pend K (Mp++[.own u]) (Up++[d]) (Yp++[cz v]) M U Y H' P (fp++F):=by
 obtain⟨l1,l2,S⟩:=h;refine⟨by simp[l1],by simp[l2],?_⟩;have S1:=S.more e fr (o.lst u);obtain⟨G,h1,h2,h3⟩:=S.all;obtain⟨G1,G2,rfl,h4,h5⟩:=h1.splitAt l1 l2;have hc:Same (cut H F) (cut H' (fp++F)):=a0A e fr;have k:∀a∈G1++G2,H' a=H a:=λa ha=>S.toE.keep e a (h3 a ha)
 have q:=(h4.frame hc λa ha=>k a (aO _ ha)).join ((j9 (m:=.own u) (d:=d) (o:=cz v) (f:=fp) ⟨v,rfl,o⟩ (h5.frame hc λa ha=>k a (ax _ ha))));refine⟨⟨G1++(fp++G2),by simpa using q,a1k h2 nd λa ha z=>?_,λa ha=>?_⟩,S1.lst,S1.prot⟩
 ·obtain⟨ys,w⟩:=S.lst a (h3 a z);rw[fr a ha]at w;cases w
 ·rcases a5s ha with z|z
  ·exact aO _ z
  ·exact ax _ (h3 a z)
def Pend.move(h:Pend K Mp Up Yp M U Y H P F)(hm:M[i]?=cz (.own u)):∃v,Y[i]?=cz (cz v)/\Pend K (Mp++[.own u]) (Up++[U.getD i .none]) (Yp++[cz v]) (M.set i .dead) U Y H P F:=by
 obtain⟨l1,l2,S⟩:=h;obtain⟨G,h1,h2,h3⟩:=S.all;obtain⟨G1,G2,rfl,h4,h5⟩:=h1.splitAt l1 l2;obtain⟨d,o,f,pre,post,e1,e2,⟨v,rfl,e3⟩,rfl,e5⟩:=h5.at_ hm;have q:=e5 H F .dead d (cz v) [] (λ_ _=>rfl) (Same.refl _) rfl;rw[set_same e1,set_same e2]at q;refine⟨v,e2,by simp[l1],by simp[l2],⟨⟨G1++(f++(pre++([]++post))),?_,?_,λa ha=>h3 a ?_⟩,S.lst,S.prot⟩⟩
 ·have:=h4.join (j9 (m:=.own u) (d:=d) (o:=cz v) (f:=f) ⟨v,rfl,e3⟩ q);rw[v8 e1];simpa using this
 ·rw[cA];refine (List.Perm.nodup_iff ?_).mp h2;refine mf G1 ?_;exact List.perm_append_comm_assoc pre f post
 ·simp only[az,cA]at ha ⊢;rcases ha with z|z|z|z
  ·exact .inl z
  ·exact .inr (.inr (.inl z))
  ·exact .inr (.inl z)
  ·exact .inr (.inr (.inr z))
end
noncomputable def PMX(X:Cx)(M:List Md)(e:Expr)(f:EvE)(u:Ty)(M1:List Md):Prop:=
 ∃t,PE X e t/\∀(Mp:List Md) (Up:List D) (Yp:L2.St) (U:List D) (Y:L2.St) (H P:Hp) (F:List au) (d:D) (Q:VK),Pend X.K Mp Up Yp M U Y H P F->f U=cz d->
  (∀v H' F',Same H H'->Pend X.K (Mp++[.own u]) (Up++[d]) (Yp++[cz v]) M1 U Y H' P F'->Q v H')->t Y H Q
section
variable {X:Cx}{M M1 M2:List Md}{e:Expr}{es:List Expr}{f:EvE}{fa:EvA}{u:Ty}{us:List Ty}{pos:fQ}
def b9(h:PX X M e f (.new u)):PMX X M e f u M:=by
 obtain⟨t,p,q⟩:=h.out;refine⟨t,p,λMp Up Yp U Y H P F d Q S hf k=>q U Y H P F d Q S.e hf λv H' e ⟨fp,o,nd,fr⟩=>k v H' _ e (S.new e o nd fr)⟩
def X7(i:Nat)(hN:X.N[i]?=cz x:=by rfl)(hv:Vis X.env.scope x:=by first|exact cg rfl|exact bP (cg rfl)|exact bP (bP rfl))(hd:(x==("__debug__":bI))=xn:=by decide)
  (jg:(x==("__classdict__":bI))=xn:=by decide) (hm:M[i]?=cz (.own u):=by rfl):PMX X M (.Name x pos) (b7 i) u (M.set i .dead):=by
 refine⟨_,x9 hN hv hd jg,λMp Up Yp U Y H P F d Q S hf k=>?_⟩;cases hf
 obtain⟨v,e,S'⟩:=S.move hm;exact⟨v,e,k v H F (Same.refl _) S'⟩
end
def dAt:Ty->D->List Nat->Option (Ty×D)
 |u,d,[]=>cz (u,d)
 |.l u,.list ds,j::p=>(ds[j]?).bind λd=>dAt u d p
 |.tp us,.tuple ds,j::p=>(us[j]?).bind λu=>(ds[j]?).bind λd=>dAt u d p
 |_,_,_=>p4
def a2p:D->List Nat->D->D
 |_,[],e=>e
 |.list ds,j::p,e=>.list (ds.set j (a2p (ds.getD j .none) p e))
 |.tuple ds,j::p,e=>.tuple (ds.set j (a2p (ds.getD j .none) p e))
 |d,_,_=>d
def wk(H:Hp):V->List Nat->V->Prop
 |v,[],w=>w=v
 |v,j::p,w=>∃a xs v1,v=.ref a/\(H a=cz (.lst xs)\/H a=cz (.tup xs))/\xs[j]?=cz v1/\wk H v1 p w
theorem b1V(e:Same H H'):∀{p:List Nat} {v w:V},wk H v p w->wk H' v p w
 |[],_,_,h=>h
 |j::p,_,_,h=>by
  obtain⟨a,xs,v1,h1,h2,h3,h4⟩:=h;exact⟨a,xs,v1,h1,h2.imp (e _ _) (e _ _),h3,b1V e h4⟩
section
variable {K:ae}{H H':Hp}{F F':List au}
theorem ListAll.zip:∀{ds:List D} {xs:List V} {fp:List au} {j:Nat} {d:D},ListAll (Own K H F u) xs ds fp->ds[j]?=cz d->
  ∃v f pre post,xs[j]?=cz v/\Own K H F u v d f/\fp=pre++(f++post)/\
   ∀(H':Hp) (F':List au) (v':V) (d':D) (f':List au),(∀a∈pre++post,H' a=H a)->Same (cut H F) (cut H' F')->Own K H' F' u v' d' f'->ListAll (Own K H' F' u) (xs.set j v') (ds.set j d') (pre++(f'++post))
 |[],_,_,j,d,_,e=>by simp at e
 |d0::ds,_,_,0,d,h,e=>by
  obtain⟨v,r,f,g,rfl,rfl,h1,h2⟩:=h.cons_inv;have:d0=d:=by simpa using e
  subst this;refine⟨v,f,[],g,rfl,h1,rfl,λH' F' v' d' f' k e' o=>?_⟩;show ListAll (Own K H' F' u) (v'::r) (d'::ds) (f'++g);exact l0 o (l5 e' h2 k)
 |d0::ds,_,_,j+1,d,h,e=>by
  obtain⟨v,r,f,g,rfl,rfl,h1,h2⟩:=h.cons_inv;obtain⟨w,f',pre,post,e1,e2,e3,e4⟩:=ListAll.zip (j:=j) h2 (by simpa using e);subst e3;refine⟨w,f',f++pre,post,by simpa using e1,e2,by rw[bg],λH' F' v' d' g' k e' o=>?_⟩;rw[bg];refine l0 (h1.frame e' u λa ha=>k a ?_) (e4 H' F' v' d' g' (λa ha=>k a ?_) e' o)
  ·rw[bg];exact aO _ ha
  ·rw[bg];exact ax _ ha
theorem OwnTs.zip:∀{us:List Ty} {ds:List D} {xs:List V} {fp:List au} {j:Nat} {u:Ty} {d:D},OwnTs K H F us xs ds fp->us[j]?=cz u->ds[j]?=cz d->
  ∃v f pre post,xs[j]?=cz v/\Own K H F u v d f/\fp=pre++(f++post)/\
   ∀(H':Hp) (F':List au) (d':D) (f':List au),(∀a∈pre++post,H' a=H a)->Same (cut H F) (cut H' F')->Own K H' F' u v d' f'->OwnTs K H' F' us xs (ds.set j d') (pre++(f'++post))
 |[],_,_,_,j,u,d,_,e,_=>by simp at e
 |u0::us,_,_,_,0,u,d,h,e,e'=>by
  simp only[OwnTs]at h;obtain⟨v,r,d0,ds,f,g,rfl,rfl,rfl,h1,h2⟩:=h;have:u0=u:=by simpa using e
  subst this;have:d0=d:=by simpa using e'
  subst this;refine⟨v,f,[],g,rfl,h1,rfl,λH' F' d' f' k e' o=>?_⟩;show OwnTs K H' F' (u0::us) (v::r) (d'::ds) (f'++g);simp only[OwnTs];exact⟨v,r,d',ds,f',g,rfl,rfl,rfl,o,h2.frame e' us k⟩
 |u0::us,_,_,_,j+1,u,d,h,e,e'=>by
  simp only[OwnTs]at h;obtain⟨v,r,d0,ds,f,g,rfl,rfl,rfl,h1,h2⟩:=h;obtain⟨w,f',pre,post,e1,e2,e3,e4⟩:=OwnTs.zip (j:=j) h2 (by simpa using e) (by simpa using e');subst e3;refine⟨w,f',f++pre,post,by simpa using e1,e2,by rw[bg],λH' F' d' g' k e' o=>?_⟩;rw[bg];show OwnTs K H' F' (u0::us) (v::r) (d0::ds.set j d') (f++(pre++(g'++post)));simp only[OwnTs];refine⟨v,r,d0,_,f,_,rfl,rfl,rfl,h1.frame e' u0 λa ha=>k a ?_,e4 H' F' d' g' (λa ha=>k a ?_) e' o⟩
  ·rw[bg];exact aO _ ha
  ·rw[bg];exact ax _ ha
theorem Own.path:∀(p:List Nat) {u t:Ty} {v w:V} {d:D} {fp:List au} {ds:List D},Own K H F u v d fp->dAt u d p=cz (.l t,.list ds)->wk H v p w->
  ∃b xs fs pre post,w=.ref b/\H b=cz (.lst xs)/\fp=pre++((b::fs)++post)/\ListAll (Own K H F t) xs ds fs/\
   ∀(H':Hp) (F':List au) (mi:List V) (iY:List D) (kN:List au),(∀a∈pre++post,H' a=H a)->Same (cut H F) (cut H' F')->H' b=cz (.lst mi)->ListAll (Own K H' F' t) mi iY kN->
    Own K H' F' u v (a2p d p (.list iY)) (pre++((b::kN)++post))
 |[],u,t,v,w,d,fp,ds,h,hd,hw=>by
  have lY:cz (u,d)=cz (.l t,.list ds):=hd;cases lY
  have Ej:w=v:=hw;subst Ej;simp only[Own]at h;rcases h with⟨_,hi,_⟩|⟨a,xs,iY,fs,rfl,h1,h2,rfl,h3⟩
  ·simp only[imm]at hi;cases hi
  ·cases h2
   refine⟨a,xs,fs,[],[],rfl,h1,by simp,h3,λH' F' mi iY kN _ _ k o=>?_⟩;simp only[Own,a2p,cA,bM];exact .inr ⟨a,mi,iY,kN,rfl,k,rfl,rfl,o⟩
 |j::p,u,t,v,w,d,fp,ds,h,hd,hw=>by
  obtain⟨a0,tz,v1,rfl,uF,sG,hw⟩:=hw;cases u with
  |l u=>
   cases d with
   |list es=>
    have lY:(es[j]?).bind (λd=>dAt u d p)=cz (.l t,.list ds):=hd;obtain⟨d1,g1,g2⟩:=bnd lY;simp only[Own]at h;rcases h with⟨_,hi,_⟩|⟨a,xs,fS,fs,e0,h1,h2,rfl,h3⟩
    ·simp only[imm]at hi;cases hi
    ·cases h2
     cases e0
     have uC:tz=xs:=by rcases uF with z|z<;>rw[h1]at z<;>cases z;rfl
     subst uC;obtain⟨v2,f,pre,post,z1,z2,rfl,z4⟩:=h3.zip g1;rw[sG]at z1;cases z1
     obtain⟨b,ys,kN,mU,kI,rfl,q2,rfl,q4,q5⟩:=Own.path p z2 g2 hw;refine⟨b,ys,kN,a0::(pre++mU),kI++post,rfl,q2,by simp,q4,λH' F' mi iY AF k e' hb o=>?_⟩;have k1:∀a∈pre++post,H' a=H a:=λa ha=>k a (by simp only[az,aF]at ha ⊢;rcases ha with z|z;exact .inl (.inr (.inl z));exact .inr (.inr z))
     have k2:∀a∈mU++kI,H' a=H a:=λa ha=>k a (by simp only[az,aF]at ha ⊢;rcases ha with z|z;exact .inl (.inr (.inr z));exact .inr (.inl z))
     have o1:=q5 H' F' mi iY AF k2 e' hb o;have o2:=z4 H' F' _ _ _ k1 e' o1;rw[set_same sG]at o2;show Own K H' F' (.l u) (.ref a0) (.list (es.set j (a2p (es.getD j .none) p (.list iY)))) _;rw[v8 g1];simp only[Own];refine .inr ⟨a0,tz,_,_,rfl,(k a0 (by simp)).trans h1,rfl,?_,o2⟩;simp
   |_=>cases hd
  |tp us=>
   cases d with
   |tuple es=>
    have lY:(us[j]?).bind (λu=>(es[j]?).bind λd=>dAt u d p)=cz (.l t,.list ds):=hd;obtain⟨u1,g0,AI⟩:=bnd lY;obtain⟨d1,g1,g2⟩:=bnd AI;simp only[Own]at h;obtain⟨a,xs,fS,e0,h1,h0,h2,h3⟩:=h;cases h2
    cases e0
    have uC:tz=xs:=by rcases uF with z|z<;>rw[h1]at z<;>cases z;rfl
    subst uC;obtain⟨v2,f,pre,post,z1,z2,rfl,z4⟩:=h3.zip g0 g1;rw[sG]at z1;cases z1
    obtain⟨b,ys,kN,mU,kI,rfl,q2,rfl,q4,q5⟩:=Own.path p z2 g2 hw;refine⟨b,ys,kN,pre++mU,kI++post,rfl,q2,by simp,q4,λH' F' mi iY AF k e' hb o=>?_⟩;have k1:∀a∈pre++post,H' a=H a:=λa ha=>k a (by simp only[az]at ha ⊢;rcases ha with z|z;exact .inl (.inl z);exact .inr (.inr z))
    have k2:∀a∈mU++kI,H' a=H a:=λa ha=>k a (by simp only[az]at ha ⊢;rcases ha with z|z;exact .inl (.inr z);exact .inr (.inl z))
    have o1:=q5 H' F' mi iY AF k2 e' hb o;have o2:=z4 H' F' _ _ k1 e' o1;show Own K H' F' (.tp us) (.ref a0) (.tuple (es.set j (a2p (es.getD j .none) p (.list iY)))) _;rw[v8 g1];obtain⟨n1,n2⟩:=p5 (e' a0 _ (j5 h0 h1));simp only[Own];refine⟨a0,tz,_,rfl,n2,n1,rfl,?_⟩;simpa using o2
   |_=>cases hd
  |i=>cases hd
  |f=>cases hd
  |d kt u=>cases hd
def Q4{N O:List au}(h:O.Nodup)(k:∀a,N.count a<=O.count a):N.Nodup:=cO.mpr λa=>cU (k a) (cO.mp h a)
def Pend.put(h:Pend K ([]++[.own t]) ([]++[d]) ([]++[cz v]) M U Y H P F)(hm:M[i]?=cz (.own u))(h0:Y[i]?=cz (cz v0))(hd:dAt u (U.getD i .none) p=cz (.l t,.list ds))(hw:wk H v0 p w) :
  ∃b xs,w=.ref b/\H b=cz (.lst xs)/\xs.length=ds.length/\StR K M (U.set i (a2p (U.getD i .none) p (.list (ds++[d])))) Y (upd H b (.lst (xs++[v]))) P F/\
   ∀j,j<ds.length->StR K M (U.set i (a2p (U.getD i .none) p (.list (ds.set j d)))) Y (upd H b (.lst (xs.set j v))) P F:=by
 obtain⟨_,_,S⟩:=h;obtain⟨G,h1,h2,h3⟩:=S.all;have mq:StAll K H F (.own t::M) (d::U) (cz v::Y) G:=by simpa using h1
 simp only[StAll]at mq;obtain⟨d',U',o',Y',fv,G2,e1,e2,rfl,⟨v',e3,ov⟩,h5⟩:=mq;cases e1
 cases e2
 cases e3
 obtain⟨dd,oo,f,pre,post,q1,q2,⟨v2,rfl,q3⟩,rfl,q5⟩:=h5.at_ hm;rw[h0]at q2;cases q2
 rw[v8 q1]at hd;obtain⟨b,xs,fs,mU,kI,rfl,r2,rfl,r4,r5⟩:=q3.path p hd hw;have tY:b∈F:=h3 b (by simp);have fX:∀o,Same (cut H F) (cut (upd H b o) F):=λo a o' ha=>by
  obtain⟨n1,n2⟩:=p5 ha;exact j5 n1 (by rw[f7 (show a≠b from λz=>n1 (z▸tY))];exact n2)
 have jf:∀a,a≠b\/(pre++post).count a=0/\(mU++kI).count a=0/\fs.count a=0/\fv.count a=0:=λa=>by
  by_cases e:a=b
  ·subst e;have:=cO.mp h2 a;simp only[bu,bw,gS]at this ⊢;exact .inr ⟨by lia,by lia,by lia,by lia⟩
  ·exact .inl e
 have kk:∀(l:List au) (o:HO),(∀a,a=b->l.count a=0)->∀a∈l,upd H b o a=H a:=λl o hc a ha=>f7 λz=>by
  have:=hc a z;rw[dY]at this;exact this ha
 have c1:∀a,a=b->(pre++post).count a=0:=λa e=>((jf a).resolve_left (λn=>n e)).1
 have c2:∀a,a=b->(mU++kI).count a=0:=λa e=>((jf a).resolve_left (λn=>n e)).2.1
 have c3:∀a,a=b->fs.count a=0:=λa e=>((jf a).resolve_left (λn=>n e)).2.2.1
 have c4:∀a,a=b->fv.count a=0:=λa e=>((jf a).resolve_left (λn=>n e)).2.2.2
 have fin:∀(mi:List V) (iY:List D) (kN:List au),ListAll (Own K (upd H b (.lst mi)) F t) mi iY kN->(∀a,kN.count a<=fs.count a+fv.count a)->StR K M (U.set i (a2p dd p (.list iY))) Y (upd H b (.lst mi)) P F:=λmi iY kN ha pH=>by
  have o1:=r5 (upd H b (.lst mi)) F mi iY kN (kk _ _ c2) (fX _) g9 ha;have q:=q5 (upd H b (.lst mi)) F (.own u) (a2p dd p (.list iY)) (cz v0) _ (kk _ _ c1) (fX _) ⟨v0,rfl,o1⟩;rw[set_same (l:=Y) h0,set_same (l:=M) hm]at q;refine⟨⟨_,q,Q4 h2 λa=>?_,λa ha=>?_⟩,λa ha=>?_,S.prot.trans (fX _)⟩
  ·have:=pH a;simp only[bu,bw,dI];lia
  ·have hc:0<(fv++(pre++(mU++(b::fs++kI)++post))).count a:=by
    have h0:=dG.mpr ha;have:=pH a;simp only[bu,bw,dI]at h0 ⊢;lia
   exact h3 a (dG.mp hc)
  ·by_cases e:a=b
   ·subst e;exact⟨⟨.lst mi,trivial⟩,g9⟩
   ·obtain⟨ys,y⟩:=S.lst a ha;exact⟨ys,by rw[f7 e];exact y⟩
 rw[v8 q1];refine⟨b,xs,rfl,r2,r4.length,fin (xs++[v]) (ds++[d]) (fs++fv) ?_ λa=>by rw[bu];exact ay _,λj hj=>?_⟩
 ·refine (l5 (fX _) r4 (kk _ _ c3)).append ?_;have:=l0 (R:=Own K (upd H b (.lst (xs++[v]))) F t) (ov.frame (fX _) t (kk _ _ c4)) l7
  rwa[bM]at this
 ·obtain⟨v3,f3,a1,a2,s1,s2,rfl,s4⟩:=r4.zip (ai hj);have c5:∀a,a=b->(a1++a2).count a=0:=λa e=>by have:=c3 a e;simp only[bu]at this ⊢;lia
  refine fin (xs.set j v) (ds.set j d) (a1++(fv++a2)) (s4 _ F v d fv (kk _ _ c5) (fX _) (ov.frame (fX _) t (kk _ _ c4))) λa=>?_
  simp only[bu];lia
end
inductive Out where
 |nx (U:List D)|rt (d:D)|bk (U:List D)|ct (U:List D)
abbrev EvS:=List D->Option Out
def EndsOk(K:ae)(P:Hp)(u:Ty)(ML M:List Md)(D:Ends)(o:Out):Prop:=
 match o with
 |.nx U=>∀Y H F,StR K M U Y H P F->D.nx Y H
 |.rt d=>∀v H fp,Own K H fp u v d fp->fp.Nodup->(∀a∈fp,P a=p4)->Same P H->D.rt v H
 |.bk U=>∀Y H F,StR K ML U Y H P F->D.bk Y H
 |.ct U=>∀Y H F,StR K ML U Y H P F->D.ct Y H
noncomputable def spS(K:ae)(u:Ty)(ML M:List Md)(g:EvS)(M':List Md):TS:=λD Y H=>∃(U:List VS.D) (P:Hp) (F:List au) (o:Out),StR K M U Y H P F/\g U=cz o/\EndsOk K P u ML M' D o
noncomputable def PSX(X:Cx)(u:Ty)(ML M:List Md)(st:iz)(g:EvS)(M':List Md):Prop:=PS X st (spS X.K u ML M g M')
noncomputable def PSsX(X:Cx)(u:Ty)(ML M:List Md)(sts:List iz)(g:EvS)(M':List Md):Prop:=PSs X sts (spS X.K u ML M g M')
section
variable {X:Cx}{u:Ty}{ML M M':List Md}{st:iz}{sts:List iz}{g:EvS}
def PSX.mk(h:∃t,PS X st t/\∀(D:Ends) (U:List VS.D) (Y:L2.St) (H P:Hp) (F:List au) (o:Out),StR X.K M U Y H P F->g U=cz o->EndsOk X.K P u ML M' D o->t D Y H):PSX X u ML M st g M':=by
 obtain⟨t,p,q⟩:=h;exact λpins s Y H D I ⟨U,P,F,o,S,hg,k⟩=>p pins s Y H D I (q D U Y H P F o S hg k)
def PSX.out(h:PSX X u ML M st g M'):∃t,PS X st t/\∀(D:Ends) (U:List VS.D) (Y:L2.St) (H P:Hp) (F:List au) (o:Out),StR X.K M U Y H P F->g U=cz o->EndsOk X.K P u ML M' D o->t D Y H:=
 ⟨_,h,λ_ U _ _ P F o S hg k=>⟨U,P,F,o,S,hg,k⟩⟩
def PSsX.mk(h:∃t,PSs X sts t/\∀(D:Ends) (U:List VS.D) (Y:L2.St) (H P:Hp) (F:List au) (o:Out),StR X.K M U Y H P F->g U=cz o->EndsOk X.K P u ML M' D o->t D Y H):PSsX X u ML M sts g M':=by
 obtain⟨t,p,q⟩:=h;exact λpins s Y H D I ⟨U,P,F,o,S,hg,k⟩=>p pins s Y H D I (q D U Y H P F o S hg k)
def PSsX.out(h:PSsX X u ML M sts g M'):∃t,PSs X sts t/\∀(D:Ends) (U:List VS.D) (Y:L2.St) (H P:Hp) (F:List au) (o:Out),StR X.K M U Y H P F->g U=cz o->EndsOk X.K P u ML M' D o->t D Y H:=
 ⟨_,h,λ_ U _ _ P F o S hg k=>⟨U,P,F,o,S,hg,k⟩⟩
end
def Wk(M M1:List Md):Prop:=∀(K:ae) (U:List D) (Y:L2.St) (H P:Hp) (F:List au),StR K M U Y H P F->∃F',StR K M1 U Y H P F'
def l9:Wk M M:=λ_ _ _ _ _ F S=>⟨F,S⟩
def Wk.trans(a:Wk M M1)(b:Wk M1 M2):Wk M M2:=λK U Y H P F S=>by
 obtain⟨F1,S1⟩:=a K U Y H P F S;exact b K U Y H P F1 S1
def l6{M:List Md}(i:Nat)(h:M[i]?=cz m:=by rfl):Wk M (M.set i .dead):=λK U Y H P F S=>⟨F,S.dead h⟩
def N4{M:List Md}(i:Nat)(h:M[i]?=cz (.own u):=by rfl):Wk M (M.set i (.own .f)):=λK U Y H P F S=>S.freeze h
noncomputable def x0:EvS:=λU=>cz (.nx U)
noncomputable def i9(a b:EvS):EvS:=λU=>(a U).bind λo=>match o with
 |.nx U'=>b U'
 |o=>cz o
noncomputable def m4(i:Nat)(f:EvE):EvS:=λU=>(f U).bind λd=>cz (.nx (U.set i d))
def asP:D->Option (D×D)
 |.tuple [a,b]=>cz (a,b)
 |_=>p4
noncomputable def a4v(i j:Nat)(f:EvE):EvS:=λU=>(f U).bind λd=>(asP d).bind λp=>cz (.nx ((U.set i p.1).set j p.2))
noncomputable def p6(f:EvE):EvS:=λU=>(f U).bind λd=>cz (.rt d)
noncomputable def sEx(f:EvE):EvS:=λU=>(f U).bind λ_=>cz (.nx U)
noncomputable def sIf(c:EvT)(a b:EvS):EvS:=λU=>(c U).bind λk=>if k then a U else b U
noncomputable def sNo:EvS:=λ_=>p4
noncomputable def Q5(set:List D->D->Option (List D))(g:EvS):List D->List D->Option Out
 |[],U=>cz (.nx U)
 |d::ds,U=>(set U d).bind λU1=>(g U1).bind λo=>match o with
  |.nx U'=>Q5 set g ds U'
  |.ct U'=>Q5 set g ds U'
  |.bk U'=>cz (.nx U')
  |.rt d=>cz (.rt d)
def u8(i:Nat):List D->D->Option (List D):=λU d=>cz (U.set i d)
def a9W(i j:Nat):List D->D->Option (List D):=λU d=>(asP d).bind λp=>cz ((U.set i p.1).set j p.2)
noncomputable def F8(fi:EvA)(set:List D->D->Option (List D))(g:EvS):EvS:=λU=>(fi U).bind λds=>Q5 set g ds U
noncomputable def whL(c:EvT)(g:EvS):Nat->List D->Option Out
 |0,_=>p4
 |n+1,U=>(c U).bind λk=>if k then (g U).bind λo=>match o with
  |.nx U'=>whL c g n U'
  |.ct U'=>whL c g n U'
  |.bk U'=>cz (.nx U')
  |.rt d=>cz (.rt d)
  else cz (.nx U)
noncomputable def sWh(n:List D->Nat)(c:EvT)(g:EvS):EvS:=λU=>whL c g (n U) U
section
variable {K:ae}{M M1:List Md}{U:List D}{Y:L2.St}{H P:Hp}{F:List au}
def StR.pend(S:StR K M U Y H P F):Pend K [] [] [] M U Y H P F:=⟨rfl,rfl,S⟩
def Pend.store(h:Pend K (Mp++[.own u]) (Up++[d]) (Yp++[cz v]) M U Y H P F)(lp:Up.length=Mp.length)(lq:Yp.length=Mp.length)(hm:M[i]?=cz m) :
  Pend K Mp Up Yp (M.set i (.own u)) (U.set i d) (Y.set i (cz v)) H P F:=by
 obtain⟨_,_,S⟩:=h;obtain⟨G,h1,h2,h3⟩:=S.all;obtain⟨G1,G2,rfl,h4,h5⟩:=h1.splitAt (by simp[lp]) (by simp[lq]);obtain⟨G3,G4,rfl,h6,h7⟩:=h4.splitAt lp lq;have h8:OwnTs K H F [u] [v] [d] G4:=a0G (us:=[u]) (vs:=[v]) h7;simp only[OwnTs]at h8;obtain⟨v',r,d',e,f,g,e1,e2,rfl,o,rfl,rfl,rfl⟩:=h8;cases e1
 cases e2
 obtain⟨d0,o0,f0,pre,post,q1,q2,q3,rfl,q5⟩:=h5.at_ hm;have q:=h6.join (q5 H F (.own u) d (cz v) f (λ_ _=>rfl) (Same.refl _) ⟨v,rfl,o⟩);refine⟨lp,lq,⟨⟨_,q,Q4 h2 λa=>?_,λa ha=>h3 a ?_⟩,S.lst,S.prot⟩⟩
 ·simp only[bu];lia
 ·simp only[az,bM]at ha ⊢;rcases ha with z|z|z|z
  ·exact .inl (.inl z)
  ·exact .inr (.inl z)
  ·exact .inl (.inr z)
  ·exact .inr (.inr (.inr z))
def Pend.st(h:Pend K [] [] [] M U Y H P F):StR K M U Y H P F:=h.2.2
def Pend.one(h:Pend K ([]++[.own u]) ([]++[d]) ([]++[cz v]) M U Y H P F):∃fp,Own K H F u v d fp/\fp.Nodup/\∀a∈fp,a∈F:=by
 obtain⟨_,_,S⟩:=h;obtain⟨G,h1,h2,h3⟩:=S.all;obtain⟨G1,G2,rfl,h4,h5⟩:=h1.splitAt (A:=[]++[.own u]) (U1:=[]++[d]) (Y1:=[]++[cz v]) rfl rfl;have h8:OwnTs K H F [u] [v] [d] G1:=a0G (us:=[u]) (vs:=[v]) h4;simp only[OwnTs]at h8;obtain⟨v',r,d',e,f,g,e1,e2,rfl,o,rfl,rfl,rfl⟩:=h8;cases e1
 cases e2
 rw[bM]at h2 h3;exact⟨f,o,(bh.mp h2).1,λa ha=>h3 a (aO _ ha)⟩
def b6b(u u1 u2:Ty):Prop:=(u=.f/\u1=.f/\u2=.f)\/(u=.i/\u1=.i/\u2=.i)\/u=.tp [u1,u2]
def Pend.untup(h:Pend K ([]++[.own u]) ([]++[.tuple [d1,d2]]) ([]++[cz v]) M U Y H P F)(hp:b6b u u1 u2) :
  ∃a v1 v2,v=.ref a/\SqT K H a [v1,v2]/\Pend K ([.own u1]++[.own u2]) ([d1]++[d2]) ([cz v1]++[cz v2]) M U Y H P F:=by
 obtain⟨_,_,S⟩:=h;obtain⟨G,h1,h2,h3⟩:=S.all;obtain⟨G1,G2,rfl,h4,h5⟩:=h1.splitAt (A:=[]++[.own u]) (U1:=[]++[.tuple [d1,d2]]) (Y1:=[]++[cz v]) rfl rfl;have h8:OwnTs K H F [u] [v] [.tuple [d1,d2]] G1:=a0G (us:=[u]) (vs:=[v]) h4;simp only[OwnTs]at h8;obtain⟨v',r,d',e,f,g,e1,e2,rfl,o,rfl,rfl,rfl⟩:=h8;cases e1
 cases e2
 have key:∃a v1 v2 f1 f2,v=.ref a/\SqT K H a [v1,v2]/\f=f1++f2/\Own K H F u1 v1 d1 f1/\Own K H F u2 v2 d2 f2:=by
  rcases hp with⟨rfl,rfl,rfl⟩|⟨rfl,rfl,rfl⟩|rfl
  ·obtain⟨rfl,o'⟩:=a8Q o;obtain⟨a,xs,rfl,k1,k2⟩:=o'.tup_inv;obtain⟨v1,v2,rfl,k3,k4⟩:=a5x k2;refine⟨a,v1,v2,[],[],rfl,T6 k1 i4,rfl,?_,?_⟩<;>simp only[Own]
   ·exact⟨trivial,k3⟩
   ·exact⟨trivial,k4⟩
  ·obtain⟨rfl,hi,o'⟩:=V8 o;obtain⟨a,xs,rfl,k1,k2⟩:=o'.tup_inv;obtain⟨v1,v2,rfl,k3,k4⟩:=a5x k2;simp only[imm,e7,ar]at hi;refine⟨a,v1,v2,[],[],rfl,T6 k1 i4,rfl,?_,?_⟩<;>simp only[Own]
   ·exact⟨trivial,hi.1,k3⟩
   ·exact⟨trivial,hi.2.1,k4⟩
  ·simp only[Own,OwnTs]at o;obtain⟨a,xs,ds,rfl,k1,_,e0,v1,r,Ig,e',f1,g1,rfl,e2,rfl,o1,v2,r2,Ie,Ic,f2,g2,rfl,e3,rfl,o2,rfl,rfl,rfl⟩:=o;cases e0
   cases e2
   cases e3
   exact⟨a,v1,v2,f1,f2,rfl,SqT.of k1,by simp,o1,o2⟩
 obtain⟨a,v1,v2,f1,f2,rfl,k1,rfl,o1,o2⟩:=key;refine⟨a,v1,v2,rfl,k1,rfl,rfl,⟨⟨f1++(f2++G2),?_,by simpa using h2,λa ha=>h3 a (by simpa using ha)⟩,S.lst,S.prot⟩⟩;exact j9 (m:=.own u1) ⟨v1,rfl,o1⟩ (j9 (m:=.own u2) ⟨v2,rfl,o2⟩ h5)
end
section
variable {X:Cx}{u t:Ty}{ML M M1 M2 M':List Md}{st:iz}{sts body CM:List iz}{g g1 g2:EvS}{e tg iter:Expr}{f:EvE}{fc:EvT}{fi:EvA}{c:Cat}{pos:fQ}
def EndsOk.pre{K:ae}{P:Hp}{D:Ends}{o:Out}(h:EndsOk K P u ML M' D o)(hw:Wk M M'):EndsOk K P u ML M D o:=by
 cases o with
 |nx U=>exact λY H F S=>by obtain⟨F',S'⟩:=hw K U Y H P F S;exact h Y H F' S'
 |rt d=>exact h
 |bk U=>exact h
 |ct U=>exact h
def PSsX.weak(h:PSsX X u ML M1 sts g M2)(a:Wk M M1)(b:Wk M2 M'):PSsX X u ML M sts g M':=by
 obtain⟨t,p,q⟩:=h.out;refine .mk ⟨t,p,λD U Y H P F o S hg k=>?_⟩;obtain⟨F1,S1⟩:=a _ U Y H P F S;exact q D U Y H P F1 o S1 hg (k.pre b)
def PSX.weak(h:PSX X u ML M1 st g M2)(a:Wk M M1)(b:Wk M2 M'):PSX X u ML M st g M':=by
 obtain⟨t,p,q⟩:=h.out;refine .mk ⟨t,p,λD U Y H P F o S hg k=>?_⟩;obtain⟨F1,S1⟩:=a _ U Y H P F S;exact q D U Y H P F1 o S1 hg (k.pre b)
def q8:PSsX X u ML M [] x0 M:=.mk ⟨_,a5g,λD U Y H P F o S hg k=>by cases hg;exact k Y H F S⟩
def c7(h1:PSX X u ML M st g1 M1)(h2:PSsX X u ML M1 sts g2 M'):PSsX X u ML M (st::sts) (i9 g1 g2) M':=by
 obtain⟨t1,p1,q1⟩:=h1.out;obtain⟨t2,p2,q2⟩:=h2.out;refine .mk ⟨_,V2 p1 p2,λD U Y H P F o S hg k=>?_⟩;obtain⟨o1,h1,g1⟩:=bnd hg;refine q1 {D with nx:=t2 D} U Y H P F o1 S h1 ?_;cases o1 with
 |nx U'=>exact λY' H' F' S'=>q2 D U' Y' H' P F' o S' g1 k
 |rt d=>cases g1;exact k
 |bk U'=>cases g1;exact k
 |ct U'=>cases g1;exact k
def g8(h1:PSX X u ML M st g M1):PSsX X u ML M [st] g M1:=by
 obtain⟨t1,p1,q1⟩:=h1.out;exact .mk ⟨_,a5h p1,q1⟩
def k6(i:Nat)(hN:X.N.Nodup)(he:PMX X M e f t M1)(hi:X.N[i]?=cz x:=by rfl)(hx:Loc X.env.scope x:=by first|exact cg rfl|exact bP rfl)(hm:M1[i]?=cz m:=by rfl)
  (hs:eX e (cz (.Name x px)) pos.line X.env=pure xn:=by rfl) (hf:X.fn x=rp\/X.env.scope.names.lookup x=cz .local:=by first|exact .inl rfl|exact .inr rfl):PSX X u ML M (.Assign [.Name x px] e pos) (m4 i f) (M1.set i (.own t)):=by
 obtain⟨te,pe,qe⟩:=he;refine .mk ⟨_,b1k hN hi hx pe hs hf,λD U Y H P F o S hg k=>?_⟩;obtain⟨d,h1,g1⟩:=bnd hg;cases g1
 exact qe [] [] [] U Y H P F d _ S.pend h1 λv H' F' e S'=>k _ _ F' (S'.store rfl rfl hm).st
def b4B(i j:Nat){pt pk}(hN:X.N.Nodup)(hc:X.calm=rp)(he:PMX X M e f t M1)(hp:b6b t u1 u2)(hi:X.N[i]?=cz x:=by rfl)(hj:X.N[j]?=cz y:=by rfl)(hx:Loc X.env.scope x:=by first|exact cg rfl|exact bP rfl)
  (hy:Loc X.env.scope y:=by first|exact cg rfl|exact bP rfl) (iH:i≠j:=by decide) (uS:M1[i]?=cz m1:=by rfl) (zV:M1[j]?=cz m2:=by rfl)
  (Fl:X.fn x=rp\/X.env.scope.names.lookup x=cz .local:=by first|exact .inl rfl|exact .inr rfl) (uZ:X.fn y=rp\/X.env.scope.names.lookup y=cz .local:=by first|exact .inl rfl|exact .inr rfl)
  (hl:(jd [.Name x px,.Name y py] X.env).length=2:=by rfl) (rS:(jd [.Name x px,.Name y py] X.env).findIdx? (·.1)=p4:=by rfl)
  (hg1:PGs X [.Name x px,.Name y py] (a6h (Z6 i) (a6h (Z6 j) b6I)):=by exact J7 (A9 hN hi hx Fl) (J7 (A9 hN hj hy uZ) a2s))
  (hs:swapsWithSole [.Tuple [.Name x px,.Name y py] pk pt] e pos.line X.env=pure xn:=by rfl) (hw:swappedStores [.Tuple [.Name x px,.Name y py] pk pt] e X.env=pure p4:=by rfl)
  (h1:(jd [.Tuple [.Name x px,.Name y py] pk pt] X.env).map (·.2)=[qB (.Tuple [.Name x px,.Name y py] pk pt) X.env]:=by rfl) :
  PSX X u ML M (.Assign [.Tuple [.Name x px,.Name y py] pk pt] e pos) (a4v i j f) ((M1.set i (.own u1)).set j (.own u2)):=by
 obtain⟨te,pe,qe⟩:=he;refine .mk ⟨_,b6K pe (a7C hc hg1 hl rS) hs hw h1,λD U Y H P F o S hg k=>?_⟩;obtain⟨d,h1,g1⟩:=bnd hg;obtain⟨⟨d1,d2⟩,h2,g2⟩:=bnd g1;cases g2
 have hd:d=.tuple [d1,d2]:=by
  match d,h2 with
  |.tuple [a,b],h2=>cases h2;rfl
 subst hd;refine qe [] [] [] U Y H P F _ _ S.pend h1 λv H' F' e S'=>?_
 obtain⟨a,v1,v2,rfl,k1,S2⟩:=S'.untup hp;refine⟨a,_,rfl,k1,rfl,v1,[v2],rfl,v2,[],rfl,rfl,?_⟩;have S3:=S2.store (i:=j) rfl rfl zV;have zW:(M1.set j (.own u2))[i]?=cz m1:=by rw[dg (dN iH)];exact uS
 have S4:=(Pend.store (Mp:=[]) (Up:=[]) (Yp:=[]) (i:=i) S3 rfl rfl zW).st;rw[sX _ _ (dN iH),sX _ _ (dN iH),sX _ _ (dN iH)]at S4;exact k _ _ F' S4
def k8(he:PMX X M e f u M1):PSX X u ML M (.Return (cz e) pos) (p6 f) M':=by
 obtain⟨te,pe,qe⟩:=he;refine .mk ⟨_,b1i pe,λD U Y H P F o S hg k=>?_⟩;obtain⟨d,h1,g1⟩:=bnd hg;cases g1
 refine qe [] [] [] U Y H P F d _ S.pend h1 λv H' F' e S'=>?_
 obtain⟨fp,o,nd,sub⟩:=S'.one;refine k v H' fp (o.frame (F9 sub) u λ_ _=>rfl) nd (λa ha=>?_) (S'.2.2.prot.trans i4);cases hP:P a with
 |none=>rfl
 |some o'=>
  have:=S'.2.2.prot _ _ hP;rw[V7 (sub a ha)]at this;cases this
def a8U(he:PX X M e f c)(hs:eX e p4 pos.line X.env=pure xn:=by rfl):PSX X u ML M (.Expr e pos) (sEx f) M:=by
 obtain⟨te,pe,qe⟩:=he.out;refine .mk ⟨_,X1 pe hs,λD U Y H P F o S hg k=>?_⟩;obtain⟨d,h1,g1⟩:=bnd hg;cases g1
 exact qe U Y H P F d _ S.toE h1 λv H' e _=>k Y H' F (S.grow e)
def v9(hc:PTX X M c0 fc)(ha:PSsX X u ML M body g1 M')(hb:PSsX X u ML M CM g2 M'):PSX X u ML M (.If c0 body CM pos) (sIf fc g1 g2) M':=by
 obtain⟨tc,pc,qc⟩:=hc.out;obtain⟨ta,pa,qa⟩:=ha.out;obtain⟨tb,pb,qb⟩:=hb.out;refine .mk ⟨_,b5V pc pa pb,λD U Y H P F o S hg k=>?_⟩;obtain⟨b,h1,g1⟩:=bnd hg;refine qc U Y H P F b _ S.toE h1 λH1 e1=>?_
 cases b with
 |true=>exact a6m (qa D U Y H1 P F o (S.grow e1) g1 k)
 |false=>exact a6l (qb D U Y H1 P F o (S.grow e1) g1 k)
def b9p:PSX X u ML M st sNo M':=.mk ⟨_,b1j,λD U Y H P F o S hg k=>by cases hg⟩
def b1W(K:ae)(M MB:List Md)(g:TG)(set:List D->D->Option (List D))(m:D->Prop):Prop:=
 ∀(U:List D) (Y:L2.St) (H P:Hp) (F:List au) (x:V) (d:D) (U':List D) (Q:L2.St->Hp->Prop),StR K M U Y H P F->Den K (cut H F) x d->m d->set U d=cz U'->(∀Y' F',StR K MB U' Y' H P F'->Q Y' H)->g x Y H Q
def mI(d:D):Prop:=imm d=rp
def E3(hm:M[i]?=cz m:=by rfl):b1W K M (M.set i (.own .i)) (Z6 i) (u8 i) mI:=by
 intro U Y H P F x d U' Q S hd hi hs q;cases hs
 exact q _ _ (S.set (u:=.i) (fp:=[]) hm (Same.refl _) (by simp only[Own,cA];exact⟨trivial,hi,hd⟩) bJ λa ha=>(nomatch ha))
def b1X(hw:w=.f\/w=.i)(iH:i≠j:=by decide)(uS:M[i]?=cz m1:=by rfl)(zV:M[j]?=cz m2:=by rfl):b1W K M ((M.set i (.own w)).set j (.own w)) (b8W K 2 (a6h (Z6 i) (a6h (Z6 j) b6I))) (a9W i j) (λd=>w=.i->imm d=rp):=by
 intro U Y H P F x d U' Q S hd hi hs q;obtain⟨⟨d1,d2⟩,h2,g2⟩:=bnd hs;cases g2
 have sM:d=.tuple [d1,d2]:=by
  match d,h2 with
  |.tuple [a,b],h2=>cases h2;rfl
 subst sM;obtain⟨a,xs,rfl,k1,k2⟩:=hd.tup_inv;obtain⟨v1,v2,rfl,k3,k4⟩:=a5x k2;refine⟨a,_,rfl,T6 k1 i4,rfl,v1,[v2],rfl,v2,[],rfl,rfl,?_⟩;have o1:Own K H ([]++F) w v1 d1 []:=by
  rcases hw with rfl|rfl
  ·simp only[Own,cA];exact⟨trivial,k3⟩
  ·have:=hi rfl;simp only[imm,e7,ar]at this;simp only[Own,cA];exact⟨trivial,this.1,k3⟩
 have o2:Own K H ([]++([]++F)) w v2 d2 []:=by
  rcases hw with rfl|rfl
  ·simp only[Own,cA];exact⟨trivial,k4⟩
  ·have:=hi rfl;simp only[imm,e7,ar]at this;simp only[Own,cA];exact⟨trivial,this.2.1,k4⟩
 have S1:=S.set uS (Same.refl _) o1 bJ λa ha=>(nomatch ha)
 exact q _ _ (S1.set (i:=j) (m:=m2) (by rw[dg iH];exact zV) (Same.refl _) o2 bJ λa ha=>(nomatch ha))
def E4{set:List D->D->Option (List D)}{m:D->Prop}(hc:X.calm=rp)(hp:kZ (aT X.prog X.w) X.A X.env X.xe)(hi:PIX X M tg iter fi)(hg:PG X tg gt)(hs:b1W X.K M MB gt set m)(hm:∀U ds,fi U=cz ds->∀d∈ds,m d)(hb:PSsX X u M MB body g M)
  (hf:∀x,dF iter X.env x=pure x:=by intro _;rfl):PSX X u ML M (.For tg iter body [] pos) (F8 fi set g) M:=by
 obtain⟨wi,pi,qi⟩:=hi;obtain⟨tb,pb,qb⟩:=hb.out;refine .mk ⟨_,a2J hp hc pi hg pb hf,λD U Y H P F o S uY k=>?_⟩;obtain⟨ds,h1,g1⟩:=bnd uY;refine qi U Y H P F ds _ S.toE h1 λJ xs Pr H1 e1 hw uL hx=>?_
 have S1:=S.grow e1;have qK:=hx.length;refine⟨λi n Y' H'=>n=xs.length-i/\i<=xs.length/\∃U' F',StR X.K M U' Y' H' (cut H1 F) F'/\Q5 set g (ds.drop i) U'=cz o,⟨xs.length,by simp,cj _,U,F,⟨S1.all,S1.lst,Same.refl _⟩,g1⟩,?_⟩;rintro i n Y' H' ⟨rfl,hi,U',F',S',hfl⟩;have lN:Same (cut H1 F) (cut H' F'):=S'.prot;have q:=uL H' (lN.trans i4);by_cases gX:i<xs.length
 ·refine .inr ⟨hw.go i H' q gX,λY2 H2=>∃U2 F2,StR X.K M U2 Y2 H2 (cut H1 F) F2/\Q5 set g (ds.drop (i+1)) U2=cz o,λY2 H2 ⟨U2,F2,S2,h2⟩=>⟨xs.length-(i+1),by lia,rfl,gX,U2,F2,S2,h2⟩,λx H2 hy=>?_⟩;obtain⟨rfl,pA⟩:=hw.yld i H' x H2 q gX hy;have mX:i<ds.length:=by lia
  have mH:ds.drop i=ds[i]::ds.drop (i+1):=cB mX;rw[mH]at hfl;obtain⟨U1,uK,g2⟩:=bnd (show (set U' ds[i]).bind _=cz o from hfl);obtain⟨o1,hg1,g3⟩:=bnd g2;obtain⟨d',ro,sL⟩:=(hx.up lN).getV pA;have lY:d'=ds[i]:=by rw[ai mX]at ro;exact (aK ro).symm
  subst lY;refine hs U' Y' H2 (cut H1 F) F' x _ U1 _ S' sL (hm U ds h1 _ (dt mX)) uK λY3 F3 S3=>qb _ U1 Y3 H2 (cut H1 F) F3 o1 S3 hg1 ?_
  cases o1 with
  |nx U2=>exact λY4 H4 F4 S4=>⟨U2,F4,S4,g3⟩
  |ct U2=>exact λY4 H4 F4 S4=>⟨U2,F4,S4,g3⟩
  |bk U2=>
   have:o=.nx U2:=(aK g3).symm;subst this;exact λY4 H4 F4 S4=>k Y4 H4 F4 ⟨S4.all,S4.lst,S1.prot.trans S4.prot⟩
  |rt d=>
   have:o=.rt d:=(aK g3).symm;subst this;refine λv H4 fp o nd fr e=>k v H4 fp o nd (λa ha=>?_) (S1.prot.trans e)
   exact S1.prot.free (fr a ha)
 ·have e:i=xs.length:=by lia
  subst e;rw[qK,jr]at hfl;have:o=.nx U':=(aK hfl).symm;subst this;exact .inl ⟨hw.stop _ H' q (ay _),k Y' H' F' ⟨S'.all,S'.lst,S1.prot.trans S'.prot⟩⟩
def b1Y(n:List D->Nat)(hp:kZ (aT X.prog X.w) X.A X.env X.xe)(hc:PTX X M c0 fc)(hb:PSsX X u M M body g M):PSX X u ML M (.While c0 body [] pos) (sWh n fc g) M:=by
 obtain⟨tc,pc,qc⟩:=hc.out;obtain⟨tb,pb,qb⟩:=hb.out;refine .mk ⟨_,b1l hp pc pb,λD U Y H P F o S uY k=>?_⟩;refine⟨λn Y' H'=>∃U' F',StR X.K M U' Y' H' P F'/\whL fc g n U'=cz o,⟨n U,U,F,S,uY⟩,?_⟩;rintro n Y' H' ⟨U',F',S',hw⟩;cases n with
 |zero=>cases hw
 |succ n=>
  obtain⟨b,h1,g1⟩:=bnd (show (fc U').bind _=cz o from hw);refine qc U' Y' H' P F' b _ S'.toE h1 λH1 e1=>?_
  cases b with
  |true=>
   refine a6m ⟨λY2 H2=>∃U2 F2,StR X.K M U2 Y2 H2 P F2/\whL fc g n U2=cz o,λY2 H2 z=>⟨n,GU _,z⟩,?_⟩;obtain⟨o1,hg1,g3⟩:=bnd (show (g U').bind _=cz o from g1);refine qb _ U' Y' H1 P F' o1 (S'.grow e1) hg1 ?_;cases o1 with
   |nx U2=>exact λY4 H4 F4 S4=>⟨U2,F4,S4,g3⟩
   |ct U2=>exact λY4 H4 F4 S4=>⟨U2,F4,S4,g3⟩
   |bk U2=>
    have:o=.nx U2:=(aK g3).symm;subst this;exact λY4 H4 F4 S4=>k Y4 H4 F4 S4
   |rt d=>
    have:o=.rt d:=(aK g3).symm;subst this;exact k
  |false=>
   have:o=.nx U':=(aK g1).symm;subst this;exact a6l (k Y' H1 F' (S'.grow e1))
end
abbrev EvP:=List D->Option (List Nat)
noncomputable def PPX(X:Cx)(M:List Md)(e:Expr)(i:Nat)(f:EvP):Prop:=
 ∃t,PE X e t/\∀(U:List D) (Y:L2.St) (H P:Hp) (F:List au) (p:List Nat) (Q:VK),StE X.K M U Y H P F->f U=cz p->(∀v v0 H',Same H H'->Y[i]?=cz (cz v0)->wk H' v0 p v->Q v H')->t Y H Q
noncomputable def B9:EvP:=λ_=>cz []
def a8V(u:Ty)(d:D)(p:List Nat):Option (List D):=(dAt u d p).bind λtd=>match td with
 | (.l _,.list ds)=>cz ds
 | (.tp _,.tuple ds)=>cz ds
 |_=>p4
section
variable {X:Cx}{u t w:Ty}{ML M M1 M':List Md}{e b pl:Expr}{f fb:EvE}{fp:EvP}{cb:Cat}{pos apos cM:fQ}
def L1(i:Nat)(hN:X.N[i]?=cz x:=by rfl)(hv:Vis X.env.scope x:=by first|exact cg rfl|exact bP (cg rfl)|exact bP (bP rfl))(hd:(x==("__debug__":bI))=xn:=by decide)
  (jg:(x==("__classdict__":bI))=xn:=by decide) (hm:M[i]?=cz (.own u):=by rfl):PPX X M (.Name x pos) i B9:=by
 refine⟨_,x9 hN hv hd jg,λU Y H P F p Q S hf k=>?_⟩;cases hf
 obtain⟨v,f,e,_⟩:=S.get hm;exact⟨v,e,k v v H (Same.refl _) e rfl⟩
noncomputable def O1(i:Nat)(u:Ty)(fp:EvP)(fe:EvE):EvS:=λU=>(fp U).bind λp=>(a8V u (U.getD i .none) p).bind λds=>(fe U).bind λd=>if ds.length<1000000 then cz (.nx (U.set i (a2p (U.getD i .none) p (.list (ds++[d]))))) else p4
noncomputable def b9q(u:Ty)(fp:EvP)(t:Ty):Prop:=∀U p d td,fp U=cz p->dAt u d p=cz td->td.1=.l t
def a0H:b9q (.l t) B9 t:=λU p d td h1 h2=>by
 cases h1
 have jL:cz (Ty.l t,d)=cz td:=h2;cases jL
 rfl
def b4C{p:List Nat}{ds:List D}(ht:∀td,dAt u d p=cz td->td.1=.l t)(hi:a8V u d p=cz ds):dAt u d p=cz (.l t,.list ds):=by
 obtain⟨⟨t',d'⟩,h1,h2⟩:=bnd hi;have e:t'=.l t:=ht _ h1;subst e;cases d' with
 |list es=>cases h2;exact h1
 |_=>cases h2
def U0(i:Nat)(hp:PPX X M pl i fp)(he:PMX X M e f t M1)(ht:b9q u fp t)(hm:M[i]?=cz (.own u):=by rfl)(uS:M1[i]?=cz (.own u):=by rfl)
  (fx:dC pl "append" X.env (cG pl X.env)=cG pl X.env:=by rfl)
  (lC:((cC cM (ao [e] X.env)).all (λx=>!x.1)&&(oI cM (kg [] X.env)).all (λx=>x.1.isSome)
   && decide ([e].length+([]:List iE).length+(if ([]:List iE).isEmpty then 0 else 1)<30))=rp:=by rfl)
  (fw:(apos.endLine==cM.line)=rp:=by rfl) (hs:ao [e] X.env=(xn,cG e X.env)::ao [] X.env:=by rfl) (hX:(cC cM (ao [] X.env)).any (·.1)=xn:=by rfl)
  (oq:eX (.Call (.Attribute pl "append" apos) [e] [] cM) p4 pos.line X.env=pure xn:=by rfl) :
  PSX X w ML M (.Expr (.Call (.Attribute pl "append" apos) [e] [] cM) pos) (O1 i u fp f) M1:=by
 obtain⟨tp,pp,qp⟩:=hp;obtain⟨te,pe,qe⟩:=he;refine .mk ⟨_,X1 (b1w iJ kS kP X2 pp (k9 pe o7 hs) fx lC fw hs hX) oq,λD U Y H P F o S hg k=>?_⟩;obtain⟨p,h1,g1⟩:=bnd hg;obtain⟨ds,h2,g2⟩:=bnd g1;obtain⟨d,h3,g3⟩:=bnd g2;by_cases hz:ds.length<1000000
 ·rw[aC hz]at g3;cases g3
  refine qp U Y H P F p _ S.toE h1 λv v0 H1 e1 BK hw=>?_
  have S1:=S.grow e1;obtain⟨v',f',e',o,_⟩:=S1.toE.get hm;rw[BK]at e';cases e'
  have xo:=b4C (λtd z=>ht U p _ td h1 z) h2;obtain⟨b,xs,fs,pre,post,rfl,r2,_,_,_⟩:=o.path p xo hw;refine⟨.inl ⟨rfl,xs,SqL.of r2⟩,qe [] [] [] U Y H1 P F d _ S1.pend h3 λv1 H2 F2 e2 S2=>?_⟩;obtain⟨b',mi,e',y_,hl,S3,_⟩:=S2.put uS BK xo (b1V e2 hw);cases e'
  refine⟨b,mi,v1,rfl,rfl,y_,?_,k Y _ F2 S3⟩;rw[hl];exact fZ hz (by rw[cJ];decide)
 ·rw[aI hz]at g3;cases g3
def a0j(i:Nat)(hN:X.N.Nodup)(hc:X.calm=rp)
  (hi:PIX X M tg iter fi) (C:T5 scope X.env.kindOf ys js X.N=rp) (hg:∀cl Cl s H fp,PG (K3 X (tn++ys) scope cl Cl s H fp) tg g) (sH:TgR X.K g n pt) (zU:mm=.i\/mm=.f)
  (qu:mm=.i->∀U ds,fi U=cz ds->∀d∈ds,∀bs,pt d=cz bs->e7 bs=rp) (uH:tn.length=n)
  (ht:∀cl Cl s H fp,PTs (K3 X (tn++ys) scope cl Cl s H fp) ifs (spT X.K (O5 (.own mm) n M js) ft)) (he:∀cl Cl s H fp,PX (K3 X (tn++ys) scope cl Cl s H fp) (O5 (.own mm) n M js) elt fe (.new t))
  (pA:X.N[i]?=cz x:=by rfl) (hx:Loc X.env.scope x:=by first|exact cg rfl|exact bP rfl) (hm:M[i]?=cz m:=by rfl)
  (oq:eX (.ListComp elt [⟨tg,iter,ifs,0⟩] scope cps) (cz (.Name x px)) pos.line X.env=pure rp:=by rfl) (hs:∀x,dF iter X.env x=pure x:=by intro _;rfl)
  (hf:X.fn x=rp\/X.env.scope.names.lookup x=cz .local:=by first|exact .inl rfl|exact .inr rfl) :
  PSX X w ML M (.Assign [.Name x px] (.ListComp elt [⟨tg,iter,ifs,0⟩] scope cps) pos) (m4 i (n8 fi js pt ft fe)) (M.set i (.own (.l t))):=by
 obtain⟨wi,pi,qi⟩:=hi;refine .mk ⟨_,a1L (te:=spE X.K (O5 (.own mm) n M js) fe (.new t)) hc hN pA hx pi C hg ht he oq hs hf,λD U Y H P F o S mo k=>?_⟩;obtain⟨d,h1,g1⟩:=bnd mo;cases g1
 exact a1m qi sH zU qu uH S.toE h1 λv H' e ⟨fp,o,nd,fr⟩=>k _ _ _ (S.set hm e o nd fr)
end
def argsOk:List Ty->List D->Bool
 |[],[]=>rp
 |.i::us,d::ds=>imm d&&argsOk us ds
 |.f::us,_::ds=>argsOk us ds
 |_,_=>xn
noncomputable def fnD(us:List Ty)(n:Nat)(g:EvS):List D->Option D:=λds=>if argsOk us ds then (g (ds++aS n .none)).bind λo=>match o with
 |.rt d=>cz d
 |_=>p4
 else p4
theorem U1:∀{us:List Ty} {vs:List V} {ds:List D},argsOk us ds=rp->DenAll K H vs ds->∀n,StAll K H [] (us.map .own++aS n .dead) (ds++aS n .none) (vs.map cz++aS n p4) []
 |[],vs,[],_,hd,n=>by
  rw[hd.nil_inv]
  induction n with
  |zero=>exact L7
  |succ n ih=>exact j9 (K:=K) (H:=H) (F:=[]) (m:=.dead) (f:=[]) rfl ih
 |.i::us,vs,d::ds,h,hd,n=>by
  have h':imm d=rp/\argsOk us ds=rp:=by simpa[argsOk]using h
  obtain⟨v,r,rfl,h1,h2⟩:=hd.cons_inv;refine j9 (K:=K) (H:=H) (F:=[]) (m:=.own .i) (f:=[]) ⟨v,rfl,?_⟩ (U1 h'.2 h2 n);simp only[Own,K7];exact⟨trivial,h'.1,h1⟩
 |.f::us,vs,d::ds,h,hd,n=>by
  have h':argsOk us ds=rp:=by simpa[argsOk]using h
  obtain⟨v,r,rfl,h1,h2⟩:=hd.cons_inv;refine j9 (K:=K) (H:=H) (F:=[]) (m:=.own .f) (f:=[]) ⟨v,rfl,?_⟩ (U1 h' h2 n);simp only[Own,K7];exact⟨trivial,h1⟩
 |.l _::us,vs,d::ds,h,_,_=>by simp[argsOk]at h
 |.tp _::us,vs,d::ds,h,_,_=>by simp[argsOk]at h
 |.d _ _::us,vs,d::ds,h,_,_=>by simp[argsOk]at h
 |[],vs,d::ds,h,_,_=>by simp[argsOk]at h
 |.i::us,vs,[],h,_,_=>by simp[argsOk]at h
 |.f::us,vs,[],h,_,_=>by simp[argsOk]at h
 |.l _::us,vs,[],h,_,_=>by simp[argsOk]at h
 |.tp _::us,vs,[],h,_,_=>by simp[argsOk]at h
 |.d _ _::us,vs,[],h,_,_=>by simp[argsOk]at h
open PyProof.Rows in
def b4D{P:bA}{w:bX}{K:ae}{mg:bI->Option aj}{base:cf}{x:bI}{st:iz}{f:au}{fd:dR}{N ps:List bI}{k n:Nat}{us:List Ty}{u:Ty}{g:EvS}{M':List Md}(F:Fun K x x st f fd)(S:FnScope N ps (i6 st))(om:us.length=ps.length)(hn:N.length=ps.length+n)
  (hb:∀(gK:aj) (A:bL) (outer:List pZ) (s:aq) (H:Hp) (E:XK),Room k (A.deeper (jM x (i6 st) s.heap.objs.size f gK))->PSsX (a0w CX0 P w K mg base N x (i6 st) f gK A outer s H E).nox u [] (us.map .own++aS n .dead) (v7 st) g M') :
  FnOk P w K mg base CX0 (k+1) f fd ps (spD K ps.length (fnD us n g) u):=by
 refine F.ok S (λvs H Q E h=>?_) (λgK A outer s H vs Q E hr h=>?_)
 ·obtain⟨ds,d,hl,_⟩:=h;exact hl
 obtain⟨ds,d,hl,hd,hm,q⟩:=h;obtain⟨t,p,r⟩:=(hb gK A outer s H E hr).out;refine⟨t,p,?_⟩;unfold fnD at hm;by_cases ha:argsOk us ds=rp
 ·rw[aC ha]at hm;obtain⟨o,h1,h2⟩:=bnd hm;cases o with
  |rt d'=>
   have jL:cz d'=cz d:=h2;cases jL
   have e:L2.start N vs=vs.map cz++aS n p4:=by
    unfold L2.start;rw[show N.length-vs.length=n by lia]
   rw[e];refine r _ (ds++aS n ko) _ H H [] (.rt d) ⟨⟨[],U1 ha hd n,bJ,λa ha=>(nomatch ha)⟩,λa ha=>(nomatch ha),by rw[K7];exact Same.refl H⟩ h1 ?_;exact λv H' fp o nd fr e=>q v H' fp e o nd fr
  |_=>cases h2
 ·rw[aI ha]at hm;cases hm
end VS
namespace VS
open PySem PySem.Spec L2 PyProof.Rows
def G0(K:ae):List (bI×au):=M7.filterMap λx=>(C5 K x).map λp=>(x,p)
def a1n:List au->Bool
 |[]=>rp
 |a::r=>!r.contains a&&a1n r
def a2T(K:ae)(names:List bI):Bool:=a1n ((G0 K).map (·.2))&&(G0 K).all λt=>(K.lookup t.2).isNone&&names.contains t.1
theorem a2U:∀{l:List (bI×au)} {x y:bI} {p:au},a1n (l.map (·.2))=rp->(x,p)∈l->(y,p)∈l->x=y
 |[],_,_,_,_,h,_=>(nomatch h)
 | (z,q)::l,x,y,p,h,h1,h2=>by
  have h':((l.map (·.2)).contains q=xn)/\a1n (l.map (·.2))=rp:=by simpa[a1n]using h
  have Bu:∀w,(w,q)∉l:=λw hw=>by
   have:(l.map (·.2)).contains q=rp:=by
    rw[vQ];exact bj.mpr ⟨(w,q),hw,rfl⟩
   rw[h'.1]at this;cases this
  rcases aF.mp h1 with e1|e1
  ·rcases aF.mp h2 with e2|e2
   ·cases e1;cases e2;rfl
   ·cases e1;exact absurd e2 (Bu y)
  ·rcases aF.mp h2 with e2|e2
   ·cases e2;exact absurd e1 (Bu x)
   ·exact a2U h'.2 e1 e2
def a1Q{K:ae}{x:bI}{p:au}(hx:x∈M7)(h:C5 K x=cz p):(x,p)∈G0 K:=
 eO.mpr ⟨x,hx,by rw[h];rfl⟩
def E5{K:ae}{x:bI}{p:au}(h:(x,p)∈G0 K):x∈M7/\C5 K x=cz p:=by
 obtain⟨y,hy,e⟩:=eO.mp h;cases q:C5 K y with
 |none=>rw[q]at e;cases e
 |some r=>
  rw[q]at e;have e':(y,r)=(x,p):=aK e;cases e'
  exact⟨hy,q⟩
def a7R{K:ae}(e:a5e K cd=cz p)(X:K.In h):∃c,cd=.ref c/\gQ h c p:=by
 unfold a5e at e
 split at e
 ·rename_i c
  split at e
  ·rename_i n dd vs sl hc
   split at e
   ·rename_i hn
    split at e
    ·rename_i P' file tf flags tg vD text tt CH Ge h7 h9 Gf
     split at e
     ·rename_i gN
      cases e
      have en:n="code":=by simpa using hn
      subst en;refine⟨c,rfl,_,vs,file,tf,flags,tg,vD,text,tt,X _ _ hc,rfl,rfl,CH,?_,?_,?_,?_,?_,bne_iff_ne.mp gN⟩
      ·simp[fE,CH]
      ·simp[fE,Ge]
      ·simp[fE,h7]
      ·simp[fE,h9]
      ·simp[fE,Gf]
     ·cases e
    ·cases e
   ·cases e
  ·cases e
 ·cases e
def a4w{K:ae}{h:cf}(e:C5 K x=cz p)(X:K.In h)(G:h.Ns bV mg) :
  ∃f oc od fd sl c,mg x=cz (.ref f)/\K.lookup f=cz ⟨oc,od,.func fd,sl⟩/\fd.code=.ref c/\gQ h c p:=by
 unfold C5 at e
 split at e
 ·rename_i f hf
  split at e
  ·rename_i oc od fd sl hl
   obtain⟨c,hc,hd⟩:=a7R e X;exact⟨f,oc,od,fd,sl,c,kO X G hf,hl,hc,hd⟩
  ·cases e
 ·cases e
def Tab0(K:ae)(h:cf):Prop:=∀x∈M7,∀p,C5 K x=cz p->isCodeTable h p/\h.get? p=cz {cls:=.none,data:=.fields #[]}
def b4E{q:bA}{loose:List bI}{zi:ExcName->Option aj}{mg mb:bI->Option aj}{h:cf}{K:ae}(T:Top q loose zi mg mb h)(X:K.In h)(ok:a2T K ((recsOf q).map (·.name))=rp):Tab0 K h:=λx hx p e=>by
 have hm:=a1Q hx e;have hn:((K.lookup p).isNone&&((recsOf q).map (·.name)).contains x)=rp:=by
  unfold a2T at ok;rw[ar]at ok;exact bD.mp ok.2 _ hm
 rw[ar,vQ]at hn;obtain⟨d,hd,rfl⟩:=bj.mp hn.2;obtain⟨f,oc,od,fd,sl,c,h1,h2,h3,h4⟩:=a4w e X T.g;obtain⟨a,o,CK,c',P',z1,z2,z3,z4,z5,z6⟩:=T.tab d hd;rw[h1]at z1;cases z1
 rw[X _ _ h2]at z2;cases z2
 have Dk:Data.func fd=Data.func CK:=z3;cases Dk
 rw[h3]at z4;cases z4
 obtain⟨ob,vs,file,tf,flags,tg,vD,text,tt,y1,y2,y3,y4,_⟩:=h4;obtain⟨⟨Hs,He,w1,w2,w3,w4⟩,w5⟩:=id z6;rw[y1]at w1;cases w1
 rw[y3]at w3;cases w3
 rw[y4]at w4;cases w4
 exact⟨z6.isCodeTable,w5⟩
def O2(K:ae)(H:Hp):Hp:=λb=>match (G0 K).find? λt=>t.2==b with
 |some t=>cz (.tbl #[.str (V1 t.1) 0])
 |none=>H b
def a9X{K:ae}{s₁:aq}{vs:List aj} 
  (KX:K.In s₁.heap) (rU:s₁.heap.Ns bV mg) (hb:s₁.heap.Ns lg mb) (FJ:∀x:bI,x≠"__name__"->mb x=gL x) (zY:s₁.heap.NoLimit) (hg:s₁.gens=#[])
  (FH:∃bm ob,mg "__builtins__"=cz (.ref bm)/\bm≠lg/\s₁.heap.get? bm=cz ob/\ob.cls=.type "module"/\ob.dict=cz lg/\ob.data=.plain)
  (sA:Tab0 K s₁.heap) (qx:a2T K names=rp)
  (ha:s₁.heap.get? a=cz {cls:=.type "list",data:=.seq vs.toArray}) (hi:IntsAre vs ns) (hl:ns.length<=aV) (hr:Room k oZ)
  (F:∀base:cf,K.In base->base.Ns bV mg->FnOk P w K mg base CX k fa fd [x] sp) (oE:∀(s:aq) (u:aj),o_ s fd ⟨[u],[]⟩ [(x,u)])
  (qZ:∀H:Hp,SqX K H a (ns.map V.int)->sp [.ref a] H (λv _=>v=.bl rp) λ_ _ _=>False)
  (AE:∀H e s',CX [] H s₁ (λ_ _ _=>False) e s'->False) :
  iZ (aT P w) oZ (.call (.ref fa) ⟨[.ref a],[]⟩) (λr s'=>r=.ok (.ret (.bool rp))/\OldK s₁.heap s'.heap/\s'.os=s₁.os/\p_ s'.gens) s₁:=by
 have rv:=vals_ints hi;have zm:=hi.length;have DQ:a1n ((G0 K).map (·.2))=rp:=by unfold a2T at qx;rw[ar]at qx;exact qx.1
 have DO:∀t∈G0 K,K.lookup t.2=p4:=λt ht=>by
  unfold a2T at qx;rw[ar]at qx;have:=bD.mp qx.2 t ht;rw[ar]at this;exact Option.isNone_iff_eq_none.mp this.1
 have core:∀H0:Hp,SqX K H0 a (ns.map V.int)->HOk P w H0 s₁.heap->(∀b u,H0 b=cz u->b=a/\∃o xs,u=.frz o (.lst xs))->(H0 a≠p4->K.lookup a=p4)->
   iZ (aT P w) oZ (.call (.ref fa) ⟨[.ref a],[]⟩) (λr s'=>r=.ok (.ret (.bool rp))/\OldK s₁.heap s'.heap/\s'.os=s₁.os/\p_ s'.gens) s₁:=by
  intro H0 hS hok hA hK;have lD:∀b u,O2 K H0 b=cz u->(∃x,(x,b)∈G0 K/\u=.tbl #[.str (V1 x) 0])\/((∀x,(x,b)∉G0 K)/\H0 b=cz u):=λb u e=>by
   unfold O2 at e
   split at e
   ·rename_i t ht
    cases e
    have h1:=sf ht;have h2:t.2=b:=rJ.mp (Io (p:=λt:bI×au=>t.2==b) ht);refine .inl ⟨t.1,?_,rfl⟩;rw[<-h2];exact h1
   ·rename_i ht
    refine .inr ⟨λx hx=>?_,e⟩;have:=iC.mp ht _ hx;simp at this
  have tabAt:∀x p,(x,p)∈G0 K->O2 K H0 p=cz (.tbl #[.str (V1 x) 0]):=λx p hm=>by
   cases e:O2 K H0 p with
   |none=>
    unfold O2 at e
    split at e
    ·cases e
    ·rename_i ht
     have:=iC.mp ht _ hm;simp at this
   |some u=>
    rcases lD p u e with⟨y,hy,rfl⟩|⟨hn,_⟩
    ·rw[a2U DQ hm hy]
    ·exact absurd hm (hn x)
  have nA:∀x,(x,a)∉G0 K:=λx hx=>by
   have:=(sA x (E5 hx).1 a (E5 hx).2).2;rw[ha]at this;cases this
  have CU:O2 K H0 a=H0 a:=by
   cases e:O2 K H0 a with
   |none=>
    unfold O2 at e
    split at e
    ·cases e
    ·exact e.symm
   |some u=>
    rcases lD a u e with⟨y,hy,_⟩|⟨_,h⟩
    ·exact absurd hy (nA y)
    ·exact h.symm
  have nV:SqX K (O2 K H0) a (ns.map V.int):=by
   rcases hS with (h|⟨o,h⟩)|h
   ·exact .inl (.inl (CU.trans h))
   ·exact .inl (.inr ⟨o,CU.trans h⟩)
   ·exact .inr h
  have rf:HOk P w (O2 K H0) s₁.heap:=λb u e=>by
   rcases lD b u e with⟨x,hx,rfl⟩|⟨hn,h⟩
   ·obtain⟨h1,h2⟩:=E5 hx;exact⟨#[],(sA x h1 b h2).2,trivial,λpos cv z=>by cases z⟩
   ·obtain⟨rfl,o,xs,rfl⟩:=hA b u h;obtain⟨h1,h2⟩:=hok _ _ h;obtain⟨z,cQ,n,r,e'⟩:=h2;exact⟨h1,z,cQ,n,r,e'⟩
  have nM:∀{b:au} {o:gE},s₁.heap.get? b=cz o->O2 K H0 b=p4->(a5d s₁.heap (O2 K H0)).get? b=cz o:=λe n=>b1f e n
  have Bs:∀{b:au} {o:gE},s₁.heap.get? b=cz o->(∀ps,o.data≠.fields ps)->(∀cQ n,o.data≠.seq cQ n)->O2 K H0 b=p4:=λ{b o} e d1 d2=>by
   cases q:O2 K H0 b with
   |none=>rfl
   |some u=>
    rcases lD b u q with⟨x,hx,rfl⟩|⟨hn,h⟩
    ·have:=(sA x (E5 hx).1 b (E5 hx).2).2;rw[e]at this;cases this
     exact absurd rfl (d1 _)
    ·obtain⟨rfl,_⟩:=hA b u h;rw[ha]at e;cases e
     exact absurd rfl (d2 _ _)
  have xZ:∀{b:au} {m:bI->Option aj},s₁.heap.Ns b m->(a5d s₁.heap (O2 K H0)).Ns b m:=λ{b m} ⟨o,es,ep,e,d,r⟩=>⟨o,es,ep,nM e (Bs e (λps z=>by rw[d]at z;cases z) λcQ n z=>by rw[d]at z;cases z),d,r⟩
  have CA:K.In (a5d s₁.heap (O2 K H0)):=λb o e=>nM (KX b o e) (by
   cases q:O2 K H0 b with
   |none=>rfl
   |some u=>
    rcases lD b u q with⟨x,hx,rfl⟩|⟨hn,h⟩
    ·rw[DO _ hx]at e;cases e
    ·obtain⟨rfl,_⟩:=hA b u h;rw[hK (by rw[h];simp)]at e;cases e)
  have hM:Mod K mg (a5d s₁.heap (O2 K H0)):=⟨CA,xZ rU,⟨mb,xZ hb,FJ⟩,let⟨mc,h1,h2⟩:=zY;⟨mc,xZ h1,h2⟩,
   let⟨bm,ob,b1,b2,b3,b4,b5,b6⟩:=FH;⟨bm,ob,b1,b2,nM b3 (Bs b3 (λps z=>by rw[b6]at z;cases z) λcQ n z=>by rw[b6]at z;cases z),b4,b5,b6⟩⟩
  have e0:Env0 P w K mg (a5d s₁.heap (O2 K H0)) oZ [] s₁ (O2 K H0):=⟨rfl,hM,λb o e=>b3T e,Nat.le_of_eq (a9D _ _),trivial,λb hb=>absurd (show b∈([]:List au) from hb) (by simp),rf,.of_eq hg,
   λx hx p e=>⟨_,0,tabAt x p (a1Q hx e),rfl⟩⟩
  refine jx ((F _ CA (xZ rU)).run oZ [] s₁ (O2 K H0) ⟨[.ref a],[]⟩ [.ref a] [.ref a] _ _ hr e0 (oE s₁ (.ref a)) (.cons rfl .nil) (qZ _ nV)) λr s' h=>?_
  cases r with
  |error e=>exact (AE _ e s' h).elim
  |ok fl=>
   cases fl with
   |next=>exact cP h
   |brk=>exact cP h
   |cont=>exact cP h
   |ret u=>
    obtain⟨v,H',os,bare,un,qw,r',q⟩:=h;have q':v=.bl rp:=q;subst q';obtain rfl:u=jW rp:=r';refine⟨rfl,⟨λb o e=>?_,λb o e=>un.there b o e (by simp)⟩,os,bare⟩;cases q:O2 K H0 b with
    |none=>exact .inl (un.keep b o e q (by intro z;exact absurd (show b∈([]:List au) from z) (by simp)) (by simp))
    |some u=>
     rcases lD b u q with⟨x,hx,rfl⟩|⟨hn,h⟩
     ·obtain⟨t1,t2⟩:=sA x (E5 hx).1 b (E5 hx).2;rw[e]at t2;cases t2
      obtain⟨more,e2⟩:=un.tbls b _ q;obtain⟨ps,e3,_⟩:=(show a6f H' s'.heap b _ from qw b _ e2);exact .inr (.inl ⟨t1,rfl,#[],ps,rfl,by simpa using e3⟩)
     ·obtain⟨rfl,ob,xs,rfl⟩:=hA b u h;have z2:=un.frzs b ob _ q;obtain⟨e1,_⟩:=rf b _ q;obtain⟨e2,_⟩:=qw b _ z2;rw[e]at e1;cases e1;exact .inl e2
 cases hk:K.lookup a with
 |some o=>
  have e:=KX a o hk;rw[ha]at e;cases e
  refine core (λ_=>p4) (.inr ⟨vs,_,hk,by rw[zm];exact hl,rv⟩) (λb u z=>by have z':(p4:Option HO)=cz u:=z;cases z') (λb u z=>by have z':(p4:Option HO)=cz u:=z;cases z') λz=>absurd rfl z
 |none=>
  refine core (λb=>if b=a then cz (.frz {cls:=.type "list",data:=.seq vs.toArray} (.lst (ns.map V.int))) else p4) (.inl (.inr ⟨{cls:=.type "list",data:=.seq vs.toArray},aC rfl⟩)) (λb u z=>?_) (λb u z=>?_) λ_=>hk
  ·by_cases hb:b=a
   ·have z':=(aC hb).symm.trans z;cases z'
    subst hb;exact⟨ha,by rw[ag];exact hl,vs,_,rv,ha⟩
   ·have z':=(aI hb).symm.trans z;cases z'
  ·by_cases hb:b=a
   ·have z':=(aC hb).symm.trans z;cases z'
    exact⟨hb,_,_,rfl⟩
   ·have z':=(aI hb).symm.trans z;cases z'
def b1Z{l:qD}{XP:(bI->Option aj)->cf->Prop}{YP:bX->cf->Prop}{d:DefRec}{K:Params->ae}{CX:bX->CXT}{sp:bX->Sp} 
  (hn:l.most=cz n) (EN:n<=aV) (xm:d.params.defaults=[]) (hr:Room k oZ)
  (hY:∀(w:bX) (h:cf),YP w h->(K w.params).In h) (hT:∀w:bX,a2T (K w.params) ((recsOf q).map (·.name))=rp)
  (F:∀(w:bX) (mg:bI->Option aj) (fa:au) (h:cf),(K w.params).In h->h.Ns bV mg->mg d.name=cz (.ref fa)->
   ∃fd:dR,(∀(s:aq) (u:aj),o_ s fd ⟨[u],[]⟩ [(x,u)])/\
    ∀base:cf,(K w.params).In base->base.Ns bV mg->FnOk l.prog w (K w.params) mg base (CX w) k fa fd [x] (sp w))
  (qZ:∀(w:bX) (H:Hp) (a:au) (ns:List Int),ns.length<=n->SqX (K w.params) H a (ns.map V.int)->sp w [.ref a] H (λv _=>v=.bl rp) λ_ _ _=>False)
  (AE:∀(w:bX) (H:Hp) (s:aq) (e:aj) (s':aq),CX w [] H s (λ_ _ _=>False) e s'->False) :
  PySem.W.WalkO q loose XP YP l.row.toRowW d [] (λf vs=>AV f vs):=by
 refine Att.attach_call hn xm λw s₀ s₁ mg mb fa o pm cd doc a vs ns G DA ho hd jg wW uO hints hlen hg=>?_
 have KX:=hY w _ DA;obtain⟨fd,hb,hF⟩:=F w mg fa _ KX G.T.g wW;exact a9X KX G.T.g G.T.b G.T.builtins G.T.nolimit hg G.T.bmain (b4E G.T KX (hT w)) (hT w) uO hints (cU hlen EN) hr hF hb (λH hS=>qZ w H a ns hlen hS) λH e s'=>AE w H s₁ e s'
def a9Y{l:qD}{XP:(bI->Option aj)->cf->Prop}{YP:bX->cf->Prop}{d:DefRec}{K:Params->ae}{m:List br->Option br}(hn:l.most=cz 63)(xm:d.params.defaults=[])(hr:Room k oZ)
  (hY:∀(w:bX) (h:cf),YP w h->(K w.params).In h) (hT:∀w:bX,a2T (K w.params) ((recsOf q).map (·.name))=rp)
  (F:∀(w:bX) (mg:bI->Option aj) (fa:au) (h:cf),(K w.params).In h->h.Ns bV mg->mg d.name=cz (.ref fa)->
   ∃fd:dR,(∀(s:aq) (u:aj),o_ s fd ⟨[u],[]⟩ [(x,u)])/\
    ∀base:cf,(K w.params).In base->base.Ns bV mg->FnOk l.prog w (K w.params) mg base CX0 k fa fd [x] (spD (K w.params) 1 m .i))
  (hm:∀ns:List Int,ns.length<=63->m [.list (ns.map .int)]=cz (.bool rp)) :
  PySem.W.WalkO q loose XP YP l.row.toRowW d [] (λf vs=>AV f vs):=
 b1Z (n:=63) (k:=k) (x:=x) (CX:=λ_=>CX0) (sp:=λw=>spD (K w.params) 1 m .i) hn (by decide) xm hr hY hT F
  (λw H a ns hl hS=>⟨_,_,rfl,denAll_cons (den_list hS (DenAll.ints ns)) denAll_nil,hm ns hl,λv H' fp _ o _ _=>(V8 o).2.2.bool_inv⟩) λ_ _ _ _ _ z=>z
end VS
namespace VS
open PySem PySem.Spec L2
def E6:∀(U ds:List D),i5 U=cz ds->ds.length=0:=λ_ _ h=>by cases h;rfl
def j8(hr:∀(U ds:List D),r U=cz ds->ds.length=n):∀(U ds:List D),b8 f r U=cz ds->ds.length=n+1:=λ_ _ h=>a9R hr h
def a7S:∀(U ds:List D),iI fi U=cz ds->∀d∈ds,mI d:=λU ds h d hd=>by
 have:=a8T rfl U ds h d hd [d] rfl;show imm d=rp;simpa only [e7,ju]using this
def a5C:∀(U ds:List D),iR fa U=cz ds->∀d∈ds,mI d:=λU ds h d hd=>by
 have:=b6a rfl U ds h d hd [d] rfl;show imm d=rp;simpa only [e7,ju]using this
end VS
namespace VS
open PySem L2
section
variable {a b c:EvE}{U U':List D}{d x y:D}
def l1(g:D->Option D):Option D->Option D
 |some x=>g x
 |none=>p4
def l2(g:D->D->Option D):Option D->Option D->Option D
 |some x,cz y=>g x y
 |_,_=>p4
def lc(m:List D->Option D):Option (List D)->Option D
 |some xs=>m xs
 |none=>p4
def b6c:Option D->Option (List D)->Option (List D)
 |some x,cz xs=>cz (x::xs)
 |_,_=>p4
def lB:Option D->Option Bool
 |some d=>asB d
 |none=>p4
def lT:Option D->Option Bool
 |some d=>tr d
 |none=>p4
def b9r:Option Bool->Option Bool
 |some b=>cz !b
 |none=>p4
def b7i:Option Bool->EvT->List D->Option Bool
 |some rp,b,U=>b U
 |some xn,_,_=>cz xn
 |none,_,_=>p4
def orT:Option Bool->EvT->List D->Option Bool
 |some rp,_,_=>cz rp
 |some xn,b,U=>b U
 |none,_,_=>p4
def b7j:Option D->EvE->List D->Option D
 |some (.bool rp),b,U=>b U
 |some (.bool xn),_,_=>cz (.bool xn)
 |_,_,_=>p4
def orE:Option D->EvE->List D->Option D
 |some (.bool rp),_,_=>cz (.bool rp)
 |some (.bool xn),b,U=>b U
 |_,_,_=>p4
def b9s:Option D->Option D
 |some (.bool b)=>cz (.bool !b)
 |_=>p4
def b4F:Option Bool->EvE->EvE->List D->Option D
 |some rp,a,_,U=>a U
 |some xn,_,b,U=>b U
 |none,_,_,_=>p4
def b7k:Option Bool->EvS->EvS->List D->Option Out
 |some rp,a,_,U=>a U
 |some xn,_,b,U=>b U
 |none,_,_,_=>p4
def thn:Option Out->EvS->Option Out
 |some (.nx U),b=>b U
 |some (.rt d),_=>cz (.rt d)
 |some (.bk U),_=>cz (.bk U)
 |some (.ct U),_=>cz (.ct U)
 |none,_=>p4
def b9t(i:Nat):Option D->List D->Option Out
 |some d,U=>cz (.nx (U.set i d))
 |none,_=>p4
def retS:Option D->Option Out
 |some d=>cz (.rt d)
 |none=>p4
def exS:Option D->List D->Option Out
 |some _,U=>cz (.nx U)
 |none,_=>p4
def b2a(i j:Nat):Option D->List D->Option Out
 |some (.tuple [x,y]),U=>cz (.nx ((U.set i x).set j y))
 |_,_=>p4
noncomputable def b9u(set:List D->D->Option (List D))(g:EvS):Option (List D)->List D->Option Out
 |some ds,U=>Q5 set g ds U
 |none,_=>p4
def a2V:Option Out->Option D
 |some (.rt d)=>cz d
 |_=>p4
def listE:Option (List D)->Option D
 |some ds=>cz (.list ds)
 |none=>p4
def b9v:Option (List D)->Option D
 |some ds=>cz (.tuple ds)
 |none=>p4
def c0T:l1 g (cz x)=g x:=rfl
def c0U:l2 g (cz x) (cz y)=g x y:=rfl
def c0V:lc m (cz xs)=m xs:=rfl
def b4G:b6c (cz x) (cz xs)=cz (x::xs):=rfl
def c0W:lB (cz (.bool k))=cz k:=rfl
def c0X:lT (cz d)=tr d:=rfl
def b7l:b9r (cz k)=cz !k:=rfl
def b7m:b7i (cz rp) t U=t U:=rfl
def b7n:b7i (cz xn) t U=cz xn:=rfl
def b9w:orT (cz rp) t U=cz rp:=rfl
def b9x:orT (cz xn) t U=t U:=rfl
def b7o:b7j (cz (.bool rp)) b U=b U:=rfl
def b7p:b7j (cz (.bool xn)) b U=cz (.bool xn):=rfl
def b9y:orE (cz (.bool rp)) b U=cz (.bool rp):=rfl
def b9z:orE (cz (.bool xn)) b U=b U:=rfl
def b7q:b9s (cz (.bool k))=cz (.bool !k):=rfl
def b7r:b4F (cz rp) a b U=a U:=rfl
def b7s:b4F (cz xn) a b U=b U:=rfl
def b7t:b7k (cz rp) s t U=s U:=rfl
def b7u:b7k (cz xn) s t U=t U:=rfl
def E7:thn (cz (.nx U)) s=s U:=rfl
def b7v:thn (cz (.rt d)) s=cz (.rt d):=rfl
def b7w:thn (cz (.bk U)) s=cz (.bk U):=rfl
def b7x:thn (cz (.ct U)) s=cz (.ct U):=rfl
def b2b:b9t i (cz d) U=cz (.nx (U.set i d)):=rfl
def b7y:retS (cz d)=cz (.rt d):=rfl
def b9A:exS (cz d) U=cz (.nx U):=rfl
def b4H:b2a i j (cz (.tuple [x,y])) U=cz (.nx ((U.set i x).set j y)):=rfl
def b7z{set:List D->D->Option (List D)}:b9u set g (cz ds) U=Q5 set g ds U:=rfl
def b7A:a2V (cz (.rt d))=cz d:=rfl
def a8W:listE (cz ds)=cz (.list ds):=rfl
def b7B:b9v (cz ds)=cz (.tuple ds):=rfl
def v_var:b7 i U=cz (U.getD i .none):=rfl
def v_c:eC d U=cz d:=rfl
def v_1:e1 g a U=l1 g (a U):=by unfold e1;cases a U<;>rfl
def v_2:e2 g a b U=l2 g (a U) (b U):=by unfold e2;cases a U<;>cases b U<;>rfl
def c0Y:eCl m f U=lc m (f U):=by unfold eCl;cases f U<;>rfl
def b7C:b8 a r U=b6c (a U) (r U):=by unfold b8;cases a U<;>cases r U<;>rfl
def b6d:i5 U=cz []:=rfl
def c0Z:tB a U=lB (a U):=by unfold tB;cases a U<;>rfl
def c1a:tV a U=lT (a U):=by unfold tV;cases a U<;>rfl
def b9B:tNo t U=b9r (t U):=by unfold tNo;cases t U<;>rfl
def b9C:tAn s t U=b7i (s U) t U:=by
 unfold tAn;cases s U with
 |none=>rfl
 |some k=>cases k<;>rfl
def b9D:a5t s t U=orT (s U) t U:=by
 unfold a5t;cases s U with
 |none=>rfl
 |some k=>cases k<;>rfl
def v_and:b1G a b U=b7j (a U) b U:=by
 unfold b1G;cases h:a U with
 |none=>rfl
 |some d=>cases d with
  |bool k=>cases k<;>rfl
  |_=>rfl
def v_or:eOr a b U=orE (a U) b U:=by
 unfold eOr;cases h:a U with
 |none=>rfl
 |some d=>cases d with
  |bool k=>cases k<;>rfl
  |_=>rfl
def v_not:b4t a U=b9s (a U):=by
 unfold b4t;cases h:a U with
 |none=>rfl
 |some d=>cases d<;>rfl
def b9E:eIf t a b U=b4F (t U) a b U:=by
 unfold eIf;cases t U with
 |none=>rfl
 |some k=>cases k<;>rfl
def b6e:P7 f U=listE (f U):=by unfold P7;cases f U<;>rfl
def b9F:Z3 f U=b9v (f U):=by unfold Z3;cases f U<;>rfl
def I9:i9 s t U=thn (s U) t:=by
 unfold i9;cases s U with
 |none=>rfl
 |some o=>cases o<;>rfl
def a2W:m4 i a U=b9t i (a U) U:=by unfold m4;cases a U<;>rfl
def b9G:p6 a U=retS (a U):=by unfold p6;cases a U<;>rfl
def c1b:sEx a U=exS (a U) U:=by unfold sEx;cases a U<;>rfl
def b7D:x0 U=cz (.nx U):=rfl
def a6v:sIf t s s' U=b7k (t U) s s' U:=by
 unfold sIf;cases t U with
 |none=>rfl
 |some k=>cases k<;>rfl
def b2c{set:List D->D->Option (List D)}:F8 fi set g U=b9u set g (fi U) U:=by unfold F8;cases fi U<;>rfl
def b7E:a4v i j a U=b2a i j (a U) U:=by
 unfold a4v;cases h:a U with
 |none=>rfl
 |some d=>
  match d with
  |.tuple [x,y]=>rfl
  |.tuple []=>rfl
  |.tuple [_]=>rfl
  |.tuple (_::_::_::_)=>rfl
  |.none=>rfl
  |.bool _=>rfl
  |.int _=>rfl
  |.str _=>rfl
  |.list _=>rfl
  |.dict _=>rfl
def Q6(h:argsOk us ds=rp):fnD us n g ds=a2V (g (ds++aS n .none)):=by
 unfold fnD;rw[aC h];cases g (ds++aS n .none) with
 |none=>rfl
 |some o=>cases o<;>rfl
def v_add:w9 (.int i) (.int j)=cz (.int (i+j)):=rfl
def v_sub:a1j (.int i) (.int j)=cz (.int (i-j)):=rfl
def v_lt:dLt (.int i) (.int j)=cz (.bool (decide (i<j))):=rfl
def c1c:dLe (.int i) (.int j)=cz (.bool (decide (i<=j))):=rfl
def c1d:dGt (.int i) (.int j)=cz (.bool (decide (j<i))):=rfl
def c1e:dGe (.int i) (.int j)=cz (.bool (decide (j<=i))):=rfl
def v_mod(h:0<j):F6 (.int i) (.int j)=cz (.int (i % j)):=by
 show (if b7c i j=rp then _ else _)=_;rw[aC (show b7c i j=rp from aE h)]
def v_div(h:0<j)(h':j<1073741824):a0z (.int i) (.int j)=cz (.int (i / j)):=by
 show (if b4q i j=rp then _ else _)=_;rw[aC (by unfold b4q;rw[aE h,aE h'];rfl)]
def a1o{i j:Int}(h:i.natAbs<2^64):N0 (.int i) (.int j)=cz (.int (i*j)):=by
 show (if a9O i j=rp then _ else _)=_;rw[aC (by unfold a9O;rw[aE h];rfl)]
def a1p{i j:Int}(h:j.natAbs<2^64):N0 (.int i) (.int j)=cz (.int (i*j)):=by
 show (if a9O i j=rp then _ else _)=_;rw[aC (by unfold a9O;rw[aE h,Bool.or_true])]
def v_pow(h:b4r i j=rp):a5q (.int i) (.int j)=cz (.int (i^j.toNat)):=by
 show (if b4r i j=rp then _ else _)=_;rw[aC h]
def b9H:dEq (.int i) (.int j)=cz (.bool (decide (i=j))):=by
 show cz (dE (xn !=aH (.int i) (.int j)))=_;have:aH (.int i) (.int j)=decide (i=j):=by
  show (i==j)=decide (i=j);exact jj i j
 rw[this];simp
def b9I:dNe (.int i) (.int j)=cz (.bool (!decide (i=j))):=by
 show cz (dE (rp !=aH (.int i) (.int j)))=_;have:aH (.int i) (.int j)=decide (i=j):=by
  show (i==j)=decide (i=j);exact jj i j
 rw[this];simp
def b7F:F7 [.list ds]=cz (.int ds.length):=rfl
def b7G:F7 [.tuple ds]=cz (.int ds.length):=rfl
def b9J:dIx (.list ds) (.int k)=atI ds k:=rfl
def b9K:dIx (.tuple ds) (.int k)=atI ds k:=rfl
def b9L:N2 (.list ds) (.int k)=atI ds k:=rfl
def b9M:C4 x y=l1 V9 (dIx x y):=by unfold C4;cases dIx x y<;>rfl
def a6w(h:imm d=rp):V9 d=cz d:=by unfold V9;rw[aC h]
def b9N:c0S k (.bool i) (.bool j)=cz (.bool (k !=(i==j))):=rfl
def a2v:imm (.int i)=rp:=by simp only[imm]
def x6(ns:List Int):e7 (ns.map .int)=rp:=by
 induction ns with
 |nil=>simp only[cV,e7]
 |cons n ns ih=>simp only[aA,e7,imm,ih,gg]
def a1q{α:Type}{xs:List α}(h0:0<=k)(h:k<(xs.length:Int)):atI xs k=cz (xs[k.toNat]'(by lia)):=by
 unfold L2.atI ixN;rw[aC h0,aC h];exact ai (by lia)
def a9Z(i:Nat):D->Option D->List D->Option Out
 |.list ds,cz d,U=>if ds.length<1000000 then cz (.nx (U.set i (.list (ds++[d])))) else p4
 |_,_,_=>p4
def b2d:O1 i (.l t) B9 a U=a9Z i (U.getD i .none) (a U) U:=by
 unfold O1 B9
 dsimp only[bC]
 cases h:U.getD i .none with
 |list ds=>
  cases a U with
  |none=>rfl
  |some d=>rfl
 |_=>cases a U<;>rfl
def b7H{ds:List D}(h:ds.length<1000000):a9Z i (.list ds) (cz d) U=cz (.nx (U.set i (.list (ds++[d])))):=by
 show (if ds.length<1000000 then cz (Out.nx (U.set i (.list (ds++[d])))) else p4)=_;rw[aC h]
def a3Y(h:a U=cz (.int n))(h0:0<=n)(h1:n<2^62):iR a U=cz (B8 0 n.toNat):=by
 unfold iR;rw[h];show (if -(2^62)<=n/\n<2^62 then cz (B8 0 n.toNat) else p4)=_;rw[aC ⟨by lia,h1⟩]
def a7T:(B8 lo n).length=n:=by unfold B8;simp
end
end VS
namespace VS
open PySem PySem.Spec L2
noncomputable def fnN(us:List Ty)(n:Nat)(g:EvS):List D->Option D:=λds=>if argsOk us ds then (g (ds++aS n .none)).bind λo=>match o with
 |.rt d=>cz d
 |.nx _=>cz .none
 |_=>p4
 else p4
open PyProof.Rows in
def b2e{P:bA}{w:bX}{K:ae}{mg:bI->Option aj}{base:cf}{x:bI}{st:iz}{f:au}{fd:dR}{N ps:List bI}{k n:Nat}{us:List Ty}{u:Ty}{g:EvS}{M':List Md}(F:Fun K x x st f fd)(S:FnScope N ps (i6 st))(om:us.length=ps.length)(hn:N.length=ps.length+n)
  (hb:∀(gK:aj) (A:bL) (outer:List pZ) (s:aq) (H:Hp) (E:XK),Room k (A.deeper (jM x (i6 st) s.heap.objs.size f gK))->PSsX (a0w CX0 P w K mg base N x (i6 st) f gK A outer s H E).nox .i [] (us.map .own++aS n .dead) (v7 st) g M') (hu:u=.i:=by rfl) :
  FnOk P w K mg base CX0 (k+1) f fd ps (spD K ps.length (fnN us n g) u):=by
 subst hu;refine F.ok S (λvs H Q E h=>?_) (λgK A outer s H vs Q E hr h=>?_)
 ·obtain⟨ds,d,hl,_⟩:=h;exact hl
 obtain⟨ds,d,hl,hd,hm,q⟩:=h;obtain⟨t,p,r⟩:=(hb gK A outer s H E hr).out;refine⟨t,p,?_⟩;unfold fnN at hm;by_cases ha:argsOk us ds=rp
 ·rw[aC ha]at hm;obtain⟨o,h1,h2⟩:=bnd hm;have e:L2.start N vs=vs.map cz++aS n p4:=by
   unfold L2.start;rw[show N.length-vs.length=n by lia]
  have S0:StR K (us.map .own++aS n .dead) (ds++aS n ko) (vs.map cz++aS n p4) H H []:=⟨⟨[],U1 ha hd n,bJ,λa ha=>(nomatch ha)⟩,λa ha=>(nomatch ha),by rw[K7];exact Same.refl H⟩;cases o with
  |rt d'=>
   have jL:cz d'=cz d:=h2;cases jL
   rw[e];exact r _ (ds++aS n ko) _ H H [] (.rt d) S0 h1 λv H' fp o nd fr e=>q v H' fp e o nd fr
  |nx U=>
   have jL:cz ko=cz d:=h2;cases jL
   rw[e];refine r _ (ds++aS n ko) _ H H [] (.nx U) S0 h1 λY' H' F' S'=>?_
   refine q .non H' [] (S'.prot.trans i4) ?_ bJ λa ha=>(nomatch ha)
   simp only[Own];exact⟨trivial,by simp only[imm],den_none⟩
  |_=>cases h2
 ·rw[aI ha]at hm;cases hm
def C0:∀{l:List α} {l':List β},fB R l l'->∀{j:Nat} {x:α},l[j]?=cz x->∃y,l'[j]?=cz y/\R x y:=by
 intro l l' h
 induction h with
 |nil=>intro j x e;simp at e
 |cons r _ ih=>
  intro j x e;cases j with
  |zero=>cases e;exact⟨_,rfl,r⟩
  |succ j=>exact ih (by simpa using e)
def a1R:∀{l:List α} {l':List β},fB R l l'->∀{j:Nat} {y:β},l'[j]?=cz y->∃x,l[j]?=cz x/\R x y:=by
 intro l l' h
 induction h with
 |nil=>intro j x e;simp at e
 |cons r _ ih=>
  intro j x e;cases j with
  |zero=>cases e;exact⟨_,rfl,r⟩
  |succ j=>exact ih (by simpa using e)
section
variable {X:Cx}{pins:List (au×gE)}{Y:L2.St}{H:Hp}{s:aq}{A:bL}{E:aj->aq->Prop}{a:au}{es:List (D×V×V)}{o:gE}{ents:Array eY}{ep:Nat}{kt:Bool}{k:D}{kv:V}{key:aj}
def a1r(I:Inv X pins Y H s)(kk:keyOk kt k)(dk:Den X.K H kv k)(rk:RelV kv key):∃as,Reads s.heap key k as:=Den.reads I k (V4 _ kk.1) dk rk
def X8(I:Inv X pins Y H s)(hu:A.units+10<du)(kk:keyOk kt k)(dk:Den X.K H kv k)(rk:RelV kv key)(h:Q (hashD k) {s with toks:=s.toks+r9 k}):aG (aT X.prog X.w) A (pyHash key) Q E s:=by
 obtain⟨as,r⟩:=a1r I kk dk rk;exact a2N k kk.1 (by have:=kk.2.1;lia) r h
def X9(I:Inv X pins Y H s)(hu:A.units+10<du)(ho:s.heap.get? a=cz o)(hd:o.data=.dict ents ep)(hp:fB M8 es ents.toList)(hn:(es.map (·.1)).Nodup)(hk:∀e∈es,keyOk kt e.1/\Den X.K H e.2.1 e.1)
  (kk:keyOk kt k) (dk:Den X.K H kv k) (rk:RelV kv key) (lP:(∀e∈es,e.1≠k)->Q p4 s) (lM:∀j e,es[j]?=cz e->e.1=k->Q (cz j) s) :
  aG (aT X.prog X.w) A (dictFind a key (hashD k)) Q E s:=by
 cases kt with
 |false=>
  obtain⟨i,rfl⟩:=kk.2.2.2 rfl;cases dk.int_inv
  obtain⟨t,rfl⟩:=rk;have ent:∀(j:Nat) (x:eY),ents.toList[j]?=cz x->∃e n u,es[j]?=cz e/\e.1=.int n/\x.key=.int n u/\x.hash=hashInt n:=λj x hx=>by
   obtain⟨e,he,h1,h2,_⟩:=a1R hp hx;obtain⟨k1,k2⟩:=hk e (bz he);obtain⟨n,en⟩:=k1.2.2.2 rfl;rw[en]at k2 h1;have e2:=k2.int_inv;rw[e2]at h2;obtain⟨u,tM⟩:=h2;exact⟨e,n,u,he,en,tM,by simpa[hashD]using h1⟩
  show aG (aT X.prog X.w) A (dictFind a (.int i t) ((eU X.prog X.w).hash i)) Q E s;refine wpAny_dictFind_of (knd:=eU X.prog X.w) (k:=i) (by simp[eU,kl]) ho hd (λx hx=>?_) ?_
  ·obtain⟨j,hj⟩:=bS.mp (et.mpr hx);obtain⟨e,n,u,_,_,h3,h4⟩:=ent j x hj;exact⟨n,by rw[h3];simp[eU,kl],h4⟩
  ·cases hf:ents.findIdx? λe=>(eU X.prog X.w).is i e.key with
   |none=>
    refine lP λe he gu=>?_
    obtain⟨j,hj⟩:=bS.mp he;obtain⟨x,hx,_⟩:=C0 hp hj;obtain⟨e',n,u,h1,h2,h3,_⟩:=ent j x hx;rw[hj]at h1;cases h1
    rw[gu]at h2;cases h2
    have:=Array.findIdx?_eq_none_iff.mp hf x (et.mp (bz hx));rw[h3]at this;simp[eU,kl]at this
   |some j=>
    obtain⟨gX,wF,_⟩:=Array.findIdx?_eq_some_iff_getElem.mp hf;have hx:ents.toList[j]?=cz ents[j]:=by simp[gX]
    obtain⟨e,n,u,h1,h2,h3,_⟩:=ent j _ hx;have uR:n=i:=by
     rw[h3]at wF;simpa[eU,kl]using wF
    subst uR;exact lM j e h1 h2
 |true=>
  obtain⟨ds,rfl⟩:=kk.2.2.1 rfl;obtain⟨p,tz,rfl,_,_⟩:=dk.tup_inv;cases (show key=be p from rk)
  obtain⟨as,DB⟩:=a1r I kk (dk) (show RelV (.ref p) (.ref p) from rfl);have build:∀{es:List (D×V×V)} {l:List eY},fB M8 es l->(∀e∈es,keyOk rp e.1/\Den X.K H e.2.1 e.1)->∃xs:List (D×au×aj),l=xs.map (λx=>(⟨hashD x.1,.ref x.2.1,x.2.2⟩:eY))/\xs.map (·.1)=es.map (·.1)/\∀x∈xs,C2 x.1=rp/\x.1.depth<=7/\∃as,Reads s.heap (.ref x.2.1) x.1 as:=by
   intro es l hp
   induction hp with
   |nil=>exact λ_=>⟨[],rfl,rfl,λx hx=>(nomatch hx)⟩
   |@cons e x es l r _ ih=>
    intro hk;obtain⟨xs,i1,i2,i3⟩:=ih λe he=>hk e (aw _ he)
    obtain⟨k1,k2⟩:=hk e av;obtain⟨as,rr⟩:=a1r I k1 k2 r.2.1;obtain⟨ds,ed⟩:=k1.2.2.1 rfl;have:∃q,x.key=.ref q:=by
     rw[ed]at rr;cases BF:x.key with
     |ref q=>exact⟨q,rfl⟩
     |_=>rw[BF]at rr;cases rr
    obtain⟨q,hq⟩:=this;refine⟨(e.1,q,x.val)::xs,?_,by rw[aA,aA,i2],λy hy=>?_⟩
    ·rw[aA,<-i1]
     congr 1;obtain⟨xh,xk,xv⟩:=x;simp only at hq;rw[show xh=hashD e.1 from r.1,hq]
    ·rcases aF.mp hy with z|z
     ·subst z;exact⟨k1.1,k1.2.1,as,by rw[hq]at rr;exact rr⟩
     ·exact i3 y z
  obtain⟨xs,x1,x2,x3⟩:=build hp hk;have idx:∀(j:Nat) (kk:D),(∃p,xs[j]?=cz (kk,p))↔∃e,es[j]?=cz e/\e.1=kk:=λj kk=>by
   have:(xs.map (·.1))[j]?=(es.map (·.1))[j]?:=by rw[x2]
   rw[aZ,aZ]at this
   constructor
   ·rintro⟨q,hq⟩;rw[hq]at this;cases he:es[j]? with
    |none=>rw[he]at this;cases this
    |some e=>rw[he]at this;exact⟨e,rfl,(aK this).symm⟩
   ·rintro⟨e,he,hk⟩;rw[he]at this;cases hx:xs[j]? with
    |none=>rw[hx]at this;cases this
    |some x=>
     rw[hx]at this;have e1:x.1=e.1:=aK this;exact⟨x.2,by rw[<-hk,<-e1]⟩
  refine @wpAny_dictFind_heap X.prog X.w D a9N (b1z X.prog X.w) A E s a p o ents ep xs (.tuple ds) Q (by show A.units+8<du;lia) ⟨kk.1,kk.2.1,as,DB⟩ ho hd x1 x3 (by rw[x2];exact hn) (λh=>lP λe he gu=>?_) (λj q hj=>?_)
  ·obtain⟨j,hj⟩:=bS.mp he;obtain⟨q,hq⟩:=(idx j (.tuple ds)).mpr ⟨e,hj,gu⟩;exact h j q hq
  ·obtain⟨e,he,gu⟩:=(idx j (.tuple ds)).mp ⟨q,hj⟩;exact lM j e he gu
end
def s9(es:List (D×V×V))(k:D):Bool:=es.any λe=>aH e.1 k
def Q7(es:List (D×V×V))(k:D)(kv v:V):List (D×V×V):=if s9 es k then es.map λe=>if aH e.1 k then (e.1,e.2.1,v) else e else es++[(k,kv,v)]
section
variable {X:Cx}{pins:List (au×gE)}{Y:L2.St}{H:Hp}{s:aq}{A:bL}{E:aj->aq->Prop}{a:au}{es:List (D×V×V)}{kt:Bool}{k:D}{kv v:V}{key val:aj}
def a7U(h:D8 (ks++[x])=xn):D8 ks=xn:=by
 cases ks with
 |nil=>rfl
 |cons e ks=>
  unfold D8 at h ⊢
  split at h
  ·cases h
  ·rename_i hn
   split
   ·rename_i heq
    cases heq
    exact absurd rfl (hn _)
   ·rfl
def a7V{x:D×V×V}(h:D9 (es++[x])=xn):D9 es=xn:=by
 rw[D9,aQ]at h;exact a7U h
def a1s(I:Inv X pins Y H s)(h:H a=cz (c6 a es)):(a==df)=xn/\es.length<=aV/\(es.map (·.1)).Nodup/\∃o ents ep,s.heap.get? a=cz o/\o.ExactDict/\o.data=.dict ents ep/\fB M8 es ents.toList/\(D9 es=xn->ep=es.length):=
 (show ObjOk X.prog X.w H s.heap a (c6 a es) from I.hok a _ h).1
def Y0(I:Inv X pins Y H s)(h:H a=cz (c6 a es))(hL:D9 es=xn):(a==df)=xn/\es.length<=aV/\(es.map (·.1)).Nodup/\∃o ents,s.heap.get? a=cz o/\o.ExactDict/\o.data=.dict ents es.length/\fB M8 es ents.toList:=
 let⟨a1,a2,a3,o,ents,_,r1,r2,r3,r4,r5⟩:=a1s I h;⟨a1,a2,a3,o,ents,r1,r2,r5 hL▸r3,r4⟩
def n9(I:Inv X pins Y H s)(h:H a=cz (c6 a es)):(a==df)=xn/\es.length<=aV/\(es.map (·.1)).Nodup/\∃o ents ep,s.heap.get? a=cz o/\o.ExactDict/\o.data=.dict ents ep/\fB M8 es ents.toList:=
 let⟨a1,a2,a3,o,ents,ep,r1,r2,r3,r4,_⟩:=a1s I h;⟨a1,a2,a3,o,ents,ep,r1,r2,r3,r4⟩
def a2X(I:Inv X pins Y H s)(h:H a=cz (c6 a es)){o:gE}{ents:Array eY}{ep:Nat}(h1:s.heap.get? a=cz o)(h3:o.data=.dict ents ep)(hL:D9 es=xn):ep=es.length:=by
 obtain⟨_,_,_,o',ug,g1,_,g3,_⟩:=Y0 I h hL;rw[h1]at g1;cases g1
 rw[h3]at g3
 injection g3
def j7(I:Inv X pins Y H s)(h:H a=cz (c6 a es)):s.TypeIs (.ref a) "dict":=by
 obtain⟨_,_,_,o,ents,ep,h1,h2,_⟩:=n9 I h;exact⟨o,h1,h2.1⟩
def L3(I:Inv X pins Y H s)(h:H a=cz (c6 a es)):∀b,be a=.ref b->∃ob,s.heap.get? b=cz ob/\ob.dict=p4:=λb q=>by
 cases q
 obtain⟨_,_,_,o,ents,ep,h1,h2,_⟩:=n9 I h;exact⟨o,h1,h2.2.1⟩
def Y1{P:bA}{w:bX}{H':Hp}{h':cf}(hs:(a==df)=xn)(hl:es.length<=aV)(hn:(es.map (·.1)).Nodup){o:gE}{ents:Array eY}{ep:Nat}(h1:h'.get? a=cz o)(h2:o.ExactDict)(h3:o.data=.dict ents ep)(he:D9 es=xn->ep=es.length)(h4:fB M8 es ents.toList):ObjOk P w H' h' a (c6 a es):=
 ⟨⟨hs,hl,hn,o,ents,ep,h1,h2,h3,h4,he⟩,⟨o,h1⟩,λx1 x2 ⟨a1,a2,a3,o',ug,sQ,b1,b2⟩ hk=>⟨a1,a2,a3,o',ug,sQ,hk _ b1,b2⟩⟩
structure KeysAt (X:Cx) (H:Hp) (kt:Bool) (es:List (D×V×V)) (k:D) (kv:V):Prop where
 keys:∀e∈es,keyOk kt e.1/\Den X.K H e.2.1 e.1
 key:keyOk kt k
 den:Den X.K H kv k
def KeysAt.eqv(K:KeysAt X H kt es k kv){e:D×V×V}(he:e∈es):aH e.1 k=rp↔e.1=k:=B6 e.1 k (K.keys e he).1.1 K.key.1
def get_dict(I:Inv X pins Y H s)(hu:A.units+10<du)(h:H a=cz (c6 a es))(K:KeysAt X H kt es k kv)(rk:RelV kv key) 
  (lP:s9 es k=xn->∀s',Inv X pins Y H s'->Q p4 s') (lM:∀e∈es,e.1=k->∀x s',Inv X pins Y H s'->RelV e.2.2 x->Q (cz x) s') :
  aG (aT X.prog X.w) A (dictGet a key) Q E s:=by
 obtain⟨_,_,hn,o,ents,ep,h1,h2,h3,h4⟩:=n9 I h;unfold dictGet
 try with_reducible refine cx ?_
 refine ab (X8 I hu K.key K.den rk (ab (X9 (s:={s with toks:=s.toks+r9 k}) (I.tok (s.toks+r9 k)) hu h1 h3 h4 hn K.keys K.key K.den rk ?_ ?_)))
 ·intro qy;refine ah (lP ?_ _ (I.tok _));unfold s9;rw[cI];exact λe he hq=>qy e he ((K.eqv he).mp hq)
 ·intro j e he gu;obtain⟨x,hx,r⟩:=C0 h4 he;refine ab (cK (s:={s with toks:=s.toks+r9 k}) h1 h3 ?_);have:ents[j]?=cz x:=by rw[<-bE];exact hx
  rw[this];exact ah (lM e (bz he) gu _ _ (I.tok _) r.2.2)
def a2Y(hf:s9 es k=xn):Q7 es k kv v=es++[(k,kv,v)]:=by unfold Q7;rw[hf];rfl
def a7W{α β:Type}{R:α->β->Prop}{l:List α}{l':List β}(h:fB R l l'){x:α}{y:β}(r:R x y):fB R (l++[x]) (l'++[y]):=by
 induction h with
 |nil=>exact .cons r .nil
 |cons q _ ih=>exact .cons q ih
def b0a(K:KeysAt X H kt es k kv)(hn:(es.map (·.1)).Nodup)(hf:s9 es k=xn):((es++[(k,kv,v)]).map (·.1)).Nodup:=by
 rw[aQ,bh];refine⟨hn,by simp,λx hx y hy e=>?_⟩;simp only[aA,cV,ak]at hy;subst hy;subst e;obtain⟨e,he,rfl⟩:=bj.mp hx;unfold s9 at hf;rw[cI]at hf;exact hf e he ((K.eqv he).mpr rfl)
def a1t(I:Inv X pins Y H s)(h:H a=cz (c6 a es))(K:KeysAt X H kt es k kv)(rk:RelV kv key)(rv:RelV v val)(hl:es.length<aV)(hf:s9 es k=xn){t':Nat}{o:gE}{ents:Array eY}{ep:Nat}(h1:s.heap.get? a=cz o)(h2:o.ExactDict)(h3:o.data=.dict ents ep)(h4:fB M8 es ents.toList) :
  Inv X pins Y (upd H a (c6 a (es++[(k,kv,v)]))) {s with heap:=s.heap.update a (·.mapDictKeys (·.push ⟨hashD k,key,val⟩)),toks:=t'}:=by
 obtain⟨hs,_,hn,_⟩:=n9 I h;refine I.write (x:=a) (e:=a) (by rw[h];exact km) (.inl rfl) (λb q hb z=>((eM ..).2 b hb).trans z) ⟨_,c_ _ h1 (iM (ik h3 _))⟩ ?_;refine Y1 hs (by simp;lia) (b0a K hn hf) (c_ _ h1 (iM (ik h3 _))) (h2.mapDictKeys _) (ik h3 _) (λhL=>by rw[a2X I h h1 h3 (a7V hL),a_];rfl) ?_;have:=a7W h4 (x:=(k,kv,v)) (y:=⟨hashD k,key,val⟩) ⟨rfl,rk,rv⟩;obtain⟨l⟩:=ents;simpa using this
def b0b(I:Inv X pins Y H s)(hu:A.units+10<du)(h:H a=cz (c6 a es))(K:KeysAt X H kt es k kv)(rk:RelV kv key)(rv:RelV v val)(hl:es.length<aV){Q:aj->aq->Prop}
  (lP:s9 es k=xn->∀s',Inv X pins Y (upd H a (c6 a (es++[(k,kv,v)]))) s'->Q val s') (lM:∀e∈es,e.1=k->∀x s',Inv X pins Y H s'->RelV e.2.2 x->Q x s') :
  aG (aT X.prog X.w) A (xJ a key val) Q E s:=by
 obtain⟨_,_,hn,o,ents,ep,h1,h2,h3,h4⟩:=n9 I h;have hsz:ents.size<=aV:=by
  have:=cS h4;have e2:ents.toList.length=ents.size:=by simp
  lia
 unfold xJ
 try with_reducible refine cx ?_
 refine ab (X8 I hu K.key K.den rk (ab (X9 (s:={s with toks:=s.toks+r9 k}) (I.tok (s.toks+r9 k)) hu h1 h3 h4 hn K.keys K.key K.den rk ?_ ?_)))
 ·intro qy;have hf:s9 es k=xn:=by
   unfold s9;rw[cI];exact λe he hq=>qy e he ((K.eqv he).mp hq)
  refine ab (gw (ab (nX (hz:=hsz) (s:={s with toks:=s.toks+r9 k}) h1 h3 (ah (lP hf _ (a1t (t':=s.toks+r9 k) I h K rk rv hl hf h1 h2 h3 h4))))))
 ·intro j e he gu;obtain⟨x,hx,r⟩:=C0 h4 he;refine ab (cK (s:={s with toks:=s.toks+r9 k}) h1 h3 ?_);have:ents[j]?=cz x:=by rw[<-bE];exact hx
  rw[this];exact ab (gw (ah (lM e (bz he) gu _ _ (I.tok (s.toks+r9 k)) r.2.2)))
def a7X(hp:fB M8 es l)(hn:(es.map (·.1)).Nodup)(hk:∀e∈es,aH e.1 k=rp↔e.1=k)(rv:RelV v val):∀{j:Nat} {e:D×V×V},es[j]?=cz e->e.1=k->
  fB M8 (es.map λe=>if aH e.1 k then (e.1,e.2.1,v) else e) (l.modify j λx=>{x with val:=val}):=by
 induction hp with
 |nil=>intro j e he;simp at he
 |@cons e0 x es l r hp ih=>
  intro j e he gu;rw[aA,bB]at hn;have rW:∀e∈es,aH e.1 k=rp↔e.1=k:=λe he=>hk e (aw _ he)
  cases j with
  |zero=>
   cases he
   have h0:aH e0.1 k=rp:=(hk _ av).mpr gu;have ki:es.map (λe=>if aH e.1 k then (e.1,e.2.1,v) else e)=es:=by
    have:∀e'∈es,(if aH e'.1 k then (e'.1,e'.2.1,v) else e')=e':=λe' lW=>by
     rw[aI];intro q;exact hn.1 (by rw[gu,<-(rW e' lW).mp q];exact bO lW)
    rw[cL this,g_]
   rw[aA,aC h0,ki];exact .cons ⟨r.1,r.2.1,rv⟩ hp
  |succ j=>
   have lW:es[j]?=cz e:=by simpa using he
   have gN:¬ aH e0.1 k=rp:=λq=>hn.1 (by rw[(hk _ av).mp q,<-gu];exact bO (bz lW))
   rw[aA,aI gN];exact .cons r (ih hn.2 rW lW gu)
def a0I{es:List (D×V×V)}:(es.map λe=>if aH e.1 k then (e.1,e.2.1,v) else e).map (·.1)=es.map (·.1):=by
 rw[bN];refine cL λe _=>?_
 show (if aH e.1 k then (e.1,e.2.1,v) else e).1=e.1
 split<;>rfl
def set_dict(I:Inv X pins Y H s)(hu:A.units+10<du)(h:H a=cz (c6 a es))(K:KeysAt X H kt es k kv)(rk:RelV kv key)(rv:RelV v val)(hl:es.length<aV){Q:Unit->aq->Prop}
  (hQ:∀s',Inv X pins Y (upd H a (c6 a (Q7 es k kv v))) s'->Q () s'):aG (aT X.prog X.w) A (GG a key val) Q E s:=by
 obtain⟨hs,_,hn,o,ents,ep,h1,h2,h3,h4⟩:=n9 I h;have hsz:ents.size<=aV:=by
  have:=cS h4;have e2:ents.toList.length=ents.size:=by simp
  lia
 unfold GG
 try with_reducible refine cx ?_
 refine ab (X8 I hu K.key K.den rk ?_);unfold lZ
 try with_reducible refine cx ?_
 refine ab (X9 (s:={s with toks:=s.toks+r9 k}) (I.tok (s.toks+r9 k)) hu h1 h3 h4 hn K.keys K.key K.den rk ?_ ?_)
 ·intro qy;have hf:s9 es k=xn:=by
   unfold s9;rw[cI];exact λe he hq=>qy e he ((K.eqv he).mp hq)
  rw[a2Y hf]at hQ;exact ab (gw (nX (hz:=hsz) (s:={s with toks:=s.toks+r9 k}) h1 h3 (hQ _ (a1t (t':=s.toks+r9 k) I h K rk rv hl hf h1 h2 h3 h4))))
 ·intro j e he gu;have hf:s9 es k=rp:=by
   unfold s9;rw[er];exact⟨e,bz he,(K.eqv (bz he)).mpr gu⟩
  have sQ:Q7 es k kv v=es.map λe=>if aH e.1 k then (e.1,e.2.1,v) else e:=by unfold Q7;rw[hf];rfl
  rw[sQ]at hQ;refine ab (gw (ab (wpAny_updateDict (s:={s with toks:=s.toks+r9 k}) h1 h3 (wpAny_point (hQ _ ?_)))));refine I.write (x:=a) (e:=a) (t':=s.toks+r9 k) (by rw[h];exact km) (.inl rfl) (λb q hb z=>((eM ..).2 b hb).trans z) ⟨_,c_ _ h1 (iM (sW h3 _))⟩ ?_;refine Y1 hs (by rw[ag];lia) (by rw[a0I];exact hn) (c_ _ h1 (iM (sW h3 _))) (h2.mapDict _) (sW h3 _) (λhL=>by rw[D9,a0I]at hL;rw[a2X I h h1 h3 hL,ag]) ?_;have:=a7X h4 hn (λe he=>K.eqv he) rv he gu;obtain⟨l⟩:=ents;simpa using this
end
def a4x(i:Expr):Prop:=∀ov iv,tG i xn ov iv=operate [ov,iv] (rF ov iv)
open PyProof.Rows in
def b9O{prog:bA}{w:bX}{A:bL}{E:aj->aq->Prop}{s:aq}{env:pZ}{value slice:Expr}{pos:fQ}{T id:String}{Q:aj->aq->Prop}
  (hl:vZ (.type T) "__getitem__"=pure (cz (.builtin id))) (hs:a4x slice)
  (h:aG (aT prog w) A (cG value env) (λo s₁=>aG (aT prog w) A (cG slice env) (λi s₂=>s₂.TypeIs o T/\aG (aT prog w) A (rF o i) Q E s₂) E s₁) E s) :
  aG (aT prog w) A (cG (.Subscript value slice pos) env) Q E s:=by
 refine PyProof.Rows.Subscript_ (de h (λo s₁ h₁=>de h₁ (λi s₂ h₂=>?_) λ_ _ x=>x) λ_ _ x=>x);obtain⟨hT,h₂⟩:=h₂;unfold subscriptTail;refine ab ?_;rw[getitemInPython_of_ne hT.not_modules];refine ab (eu hT hl ?_);have fin:aG (aT prog w) A (tG slice xn o i) (λr s₃=>aG (aT prog w) A (letTemporaryGo value o r >>= λ_=>pure r) Q E s₃) E s₂:=by
  rw[hs o i];exact wpAny_operating (de h₂ (λr s₃ h₃=>ab (wpAny_letTemporaryGo (ah h₃))) λ_ _ x=>x)
 first
  |exact ah (ab fin)
  |exact ab (ah (ab fin))
  |exact ab fin
section
variable {X:Cx}{pins:List (au×gE)}{Y:L2.St}{H:Hp}{s:aq}{A:bL}{E:aj->aq->Prop}{a:au}{es:List (D×V×V)}{kt:Bool}{k:D}{kv v:V}{key val:aj}
def a2Z(hu:A.units+12<du)(I:Inv X pins Y H s)(h:H a=cz (c6 a es))(K:KeysAt X H kt es k kv)(rk:RelV kv key)(hh:s9 es k=rp)
  (hQ:∀e∈es,e.1=k->∀x s',Inv X pins Y H s'->RelV e.2.2 x->Q x s'):aG (aT X.prog X.w) A (rF (.ref a) key) Q E s:=by
 have hT:=j7 I h;unfold rF
 try with_reducible refine cx ?_
 refine ab (wpAny_sequenceKey hT (by decide) ?_);refine ab (cN (name:=dq "__getitem__") hT slot_dict_getitem (cD slot_dict_getitem hT entry_dict_getitem ?_ (args_dict_getitem _ _)));show aG _ _ (dictGet a key >>= _) _ _ s;refine ab (get_dict (A:=A.in1) I (by show A.units+1+10<du;lia) h K rk (λhf=>by rw[hh]at hf;cases hf) λe he gu x s' I' r=>?_);exact ah ⟨x,rfl,ah (hQ e he gu x s' I' r)⟩
def a1S(hu:A.units+12<du)(I:Inv X pins Y H s)(h:H a=cz (c6 a es))(K:KeysAt X H kt es k kv)(rk:RelV kv key)
  (hQ:∀s',Inv X pins Y H s'->Q (s9 es k) s'):aG (aT X.prog X.w) A (contains (.ref a) key) Q E s:=by
 have hT:=j7 I h;obtain⟨hd,_⟩:=n9 I h;unfold contains
 try with_reducible refine cx ?_
 refine ab (eu hT slot_dict_contains.lookup ?_);show aG _ _ (if (cz (AS "dict.__contains__")==cz bb)=rp then _ else _) _ E s;rw[aI (by rw[beq_builtin_none];exact bo)];refine ab (wpAny_callSpecialUnlessNone?_slot (name:=dq "__contains__") hT slot_dict_contains (cD slot_dict_contains hT entry_dict_contains ?_ (args_dict_contains _ _)));show aG _ _ (dictGet a key >>= _) _ _ s;refine ab (get_dict (A:=A.in1) I (by show A.units+1+10<du;lia) h K rk (λhf s' I'=>?_) λe he gu x s' I' r=>?_)
 ·rw[hf]at hQ;show aG _ _ (Builtin.Dict.pendingKey? a key >>= _) _ _ _;exact ab (wpAny_pendingKey_other hd (ah ⟨_,rfl,eK (hQ s' I')⟩))
 ·have hf:s9 es k=rp:=by
   unfold s9;rw[er];exact⟨e,he,(K.eqv he).mpr gu⟩
  rw[hf]at hQ;show aG _ _ (ret (.bool rp)) _ _ _;exact ah ⟨_,rfl,eK (hQ s' I')⟩
def b9P(hu:A.units+12<du)(I:Inv X pins Y H s)(h:H a=cz (c6 a es))(K:KeysAt X H kt es k kv)(rk:RelV kv key)
  (hQ:∀s',Inv X pins Y H s'->Q (.bool (s9 es k)) s'):aG (aT X.prog X.w) A (bU .In key (.ref a)) Q E s:=by
 show aG _ _ (do return .bool (<-contains (.ref a) key)) Q E s;exact ab (a1S hu I h K rk λs' I'=>ah (hQ s' I'))
def b2f(hu:A.units+12<du)(I:Inv X pins Y H s)(h:H a=cz (c6 a es))(K:KeysAt X H kt es k kv)(rk:RelV kv key)
  (hQ:∀s',Inv X pins Y H s'->Q (.bool (!s9 es k)) s'):aG (aT X.prog X.w) A (bU .NotIn key (.ref a)) Q E s:=by
 show aG _ _ (do return .bool (!(<-contains (.ref a) key))) Q E s;exact ab (a1S hu I h K rk λs' I'=>ah (hQ s' I'))
def a7Y(hu:A.units+12<du)(I:Inv X pins Y H s)(h:H a=cz (c6 a es))(K:KeysAt X H kt es k kv)(rk:RelV kv key)(rv:RelV v val)(hl:es.length<aV)
  (hQ:∀s',Inv X pins Y (upd H a (c6 a (Q7 es k kv v))) s'->Q () s'):aG (aT X.prog X.w) A (setItem (.ref a) key val) Q E s:=by
 have hT:=j7 I h;unfold setItem
 try with_reducible refine cx ?_
 refine ab (wpAny_sequenceKey hT (by decide) ?_);refine ab (cN (name:=dq "__setitem__") hT slot_dict_setitem (cD slot_dict_setitem hT entry_dict_setitem ?_ (args_dict_setitem _ _ _)));show aG _ _ (Builtin.Dict.notOrdered "__setitem__" ⟨[.ref a,key,val],[]⟩ >>= _) _ _ s;refine ab (gf hT ?_);show aG _ _ (GG a key val >>= _) _ _ s;exact ab (set_dict (A:=A.in1) I (by show A.units+1+10<du;lia) h K rk rv hl λs' I'=>ah ⟨.none,rfl,ah (hQ s' I')⟩)
def b4I(hu:A.units+12<du)(I:Inv X pins Y H s)(h:H a=cz (c6 a es))(K:KeysAt X H kt es k kv)(rk:RelV kv key)(rv:RelV v val)(hl:es.length<aV)
  (lP:s9 es k=xn->∀s',Inv X pins Y (upd H a (c6 a (es++[(k,kv,v)]))) s'->Q val s') (lM:∀e∈es,e.1=k->∀x s',Inv X pins Y H s'->RelV e.2.2 x->Q x s') :
  aG (aT X.prog X.w) A (call (.builtin "dict.setdefault") [.ref a,key,val]) Q E s:=by
 have hT:=j7 I h;obtain⟨hd,_⟩:=n9 I h;refine cD F.slot_dict_setdefault hT F.entry_dict_setdefault ?_ (F.args_dict_setdefault_3 _ _ _);unfold Builtin.«dict.setdefault»;refine ab ?_;unfold Builtin.Dict.keyAndDefault;refine ab (gf hT ?_);show aG _ _ (pure (a,key,cz val)) _ _ s;refine ah ?_;show aG _ _ (if (a==df)=rp then _ else (xJ a key val >>= _)) _ _ s;rw[aI (by rw[hd];exact bo)];exact ab (b0b (A:=A.in1) I (by show A.units+1+10<du;lia) h K rk rv hl (λhf s' I'=>ah ⟨_,rfl,lP hf s' I'⟩) λe he gu x s' I' r=>ah ⟨_,rfl,lM e he gu x s' I' r⟩)
def b7I(I:Inv X pins Y H s)(h:H a=cz (c6 a es))(hQ:∀t s',Inv X pins Y H s'->Q (.int es.length t) s'):aG (aT X.prog X.w) A (call (.builtin "len") [.ref a]) Q E s:=by
 have hT:=j7 I h;obtain⟨hd,hl,_,o,ents,ep,h1,h2,h3,h4⟩:=n9 I h;have hsz:ents.size=es.length:=by
  have:=cS h4;have e2:ents.toList.length=ents.size:=by simp
  lia
 have qz:(es.length:Int)<2^63:=by
  have:aV<2^62:=by decide
  lia
 refine yN kind_len plain_len entry_len (args_len1 _) ?_;unfold Builtin.«len»;refine ab (m:=oneArg "len" _) (ah ?_);refine ab (m:=callSpecial? (.ref a) (dq "__len__")) (cN (name:=dq "__len__") hT i_ (cD i_ hT F.entry_dict_len ?_ (F.args_dict_len_1 _)));show aG _ _ (dictSize a >>= _) _ _ s;unfold dictSize;refine ab (ab (cK h1 h3 (ah ?_)));show aG _ _ (yP a >>= _) _ _ s;refine ab (yS hd ?_);refine uw ?_;rw[oS,hsz];refine ab (cx (ah ?_));refine ab (nZ ?_);show aG _ _ (if ((es.length:Nat):Int)<0 then _ else _) _ _ _;rw[aI (by lia)];show aG _ _ (if ((es.length:Nat):Int)≥2^63 then _ else _) _ _ _;rw[aI (by lia)];exact ab (wpAny_mkInt (ah ⟨_,rfl,hQ _ _ (I.tok _)⟩))
end
def w6(kvs:List (D×D))(k:D):Bool:=kvs.any λp=>aH p.1 k
def D0(kvs:List (D×D))(k:D):Option D:=(kvs.find? λp=>aH p.1 k).map (·.2)
def n4(kvs:List (D×D))(k d:D):List (D×D):=if w6 kvs k then kvs.map λp=>if aH p.1 k then (p.1,d) else p else kvs++[(k,d)]
def m9(kt:Bool)(k:D):Bool:=C2 k&&decide (k.depth<=7)&&match k with
 |.tuple _=>kt
 |.int _=>!kt
 |_=>xn
def u9(h:m9 kt k=rp):keyOk kt k:=by
 unfold m9 at h;rw[ar,ar]at h;refine⟨h.1.1,aR h.1.2,λe=>?_,λe=>?_⟩
 ·subst e;cases k with
  |tuple ds=>exact⟨ds,rfl⟩
  |int i=>have:=h.2;simp at this
  |_=>have:=h.2;simp at this
 ·subst e;cases k with
  |int i=>exact⟨i,rfl⟩
  |tuple ds=>have:=h.2;simp at this
  |_=>have:=h.2;simp at this
def dIn(neg kt:Bool):D->D->Option D
 |k,.dict kvs=>if m9 kt k then cz (.bool (neg !=w6 kvs k)) else p4
 |_,_=>p4
def b0c(kt:Bool):D->D->Option D
 |.dict kvs,k=>if m9 kt k then D0 kvs k else p4
 |_,_=>p4
def b2g:List D->Option D
 |[.dict kvs]=>cz (.int kvs.length)
 |_=>p4
theorem w8:∀{es:List (D×V×V)} {ds:List D},ds.length=es.length->w6 ((es.map (·.1)).zip ds) k=s9 es k
 |[],ds,_=>by simp[w6,s9]
 |e::es,[],h=>by simp at h
 |e::es,d::ds,h=>by
  have ih:=w8 (k:=k) (es:=es) (ds:=ds) (by simpa using h);unfold w6 s9 at ih ⊢;simp only[aA,eN,kU,ih]
theorem a0J:∀{es:List (D×V×V)} {ds:List D} {j:Nat} {e:D×V×V} {d:D},ds.length=es.length->(∀e∈es,aH e.1 k=rp↔e.1=k)->(es.map (·.1)).Nodup->es[j]?=cz e->e.1=k->ds[j]?=cz d->D0 ((es.map (·.1)).zip ds) k=cz d
 |[],ds,j,e,d,_,_,_,he,_,_=>by simp at he
 |e0::es,[],j,e,d,h,_,_,_,_,_=>by simp at h
 |e0::es,d0::ds,0,e,d,h,hk,_,he,gu,hd=>by
  cases he
  cases hd
  have:aH e0.1 k=rp:=(hk _ av).mpr gu;simp[D0,this]
 |e0::es,d0::ds,j+1,e,d,h,hk,hn,he,gu,hd=>by
  rw[aA,bB]at hn;have lW:es[j]?=cz e:=by simpa using he
  have lY:ds[j]?=cz d:=by simpa using hd
  have ih:=a0J (k:=k) (by simpa using h) (λe he=>hk e (aw _ he)) hn.2 lW gu lY;have gN:aH e0.1 k=xn:=by
   cases q:aH e0.1 k with
   |false=>rfl
   |true=>exact absurd (by rw[(hk _ av).mp q,<-gu];exact bO (bz lW)) hn.1
  unfold D0 at ih ⊢;simp only[aA,eN,iu,gN];exact ih
def b0d(h:w6 kvs k=xn):D0 kvs k=p4:=by
 unfold w6 at h;rw[cI]at h;unfold D0;rw[iC.mpr λp hp=>by simpa using h p hp];rfl
def a0K(h:D0 kvs k=cz d):w6 kvs k=rp:=by
 cases q:w6 kvs k with
 |true=>rfl
 |false=>rw[b0d q]at h;cases h
def a4y(h:w6 kvs k=xn):n4 kvs k d=kvs++[(k,d)]:=by unfold n4;rw[h];rfl
def W3{es:List (D×V×V)}{ds:List D}{k d:D}{kv v:V}(hl:ds.length=es.length):((es++[(k,kv,v)]).map (·.1)).zip (ds++[d])=(es.map (·.1)).zip ds++[(k,d)]:=by
 rw[aQ,qF (by rw[ag];exact hl.symm)];rfl
theorem O6{v:V}:∀{es:List (D×V×V)} {ds:List D} {j:Nat} {e:D×V×V},ds.length=es.length->(∀e∈es,aH e.1 k=rp↔e.1=k)->(es.map (·.1)).Nodup->es[j]?=cz e->e.1=k->
  ((es.map (·.1)).zip ds).map (λp=>if aH p.1 k then (p.1,d) else p)=(es.map (·.1)).zip (ds.set j d)
 |[],ds,j,e,_,_,_,he,_=>by simp at he
 |e0::es,[],j,e,h,_,_,_,_=>by simp at h
 |e0::es,d0::ds,0,e,h,hk,hn,he,gu=>by
  cases he
  rw[aA,bB]at hn;have h0:aH e0.1 k=rp:=(hk _ av).mpr gu;have ki:((es.map (·.1)).zip ds).map (λp=>if aH p.1 k then (p.1,d) else p)=(es.map (·.1)).zip ds:=by
   have:∀p∈(es.map (·.1)).zip ds,(if aH p.1 k then (p.1,d) else p)=p:=λp hp=>by
    rw[aI];intro q;have hm:=(ir hp).1;obtain⟨e',lW,hq⟩:=bj.mp hm;have Ey:e'.1=p.1:=hq;rw[<-Ey]at q;exact hn.1 (by rw[gu,<-(hk e' (aw _ lW)).mp q];exact bO lW)
   rw[cL this,g_]
  simp only[aA,eN,kr,aC h0,ki]
 |e0::es,d0::ds,j+1,e,h,hk,hn,he,gu=>by
  rw[aA,bB]at hn;have lW:es[j]?=cz e:=by simpa using he
  have ih:=O6 (k:=k) (d:=d) (v:=v) (ds:=ds) (by simpa using h) (λe he=>hk e (aw _ he)) hn.2 lW gu;have gN:¬ aH e0.1 k=rp:=λq=>hn.1 (by rw[(hk _ av).mp q,<-gu];exact bO (bz lW))
  simp only[aA,eN,iB,aI gN,ih]
section
variable {K:ae}{H:Hp}{F:List au}
theorem Own.dict(h:Own K H F (.d kt u) v d fp):∃a es ds fs,v=.ref a/\H a=cz (c6 a es)/\d=.dict ((es.map (·.1)).zip ds)/\fp=a::fs/\(∀e∈es,keyOk kt e.1/\Den K (cut H F) e.2.1 e.1)/\ListAll (Own K H F u) (es.map (·.2.2)) ds fs/\ds.length=es.length/\(es.map (·.1)).Nodup:=by
 simp only[Own]at h;obtain⟨a,es,ds,fs,h1,h2,h3,h4,h5,h6⟩:=h;exact⟨a,es,ds,fs,h1,h2,h3,h4,h5.2,h6,by have:=h6.length;rw[ag]at this;exact this.symm,h5.1⟩
end
section
variable {X:Cx}{M:List Md}{a b e:Expr}{fa fb:EvE}{ca cb:Cat}{kt:Bool}{u:Ty}{pos:fQ}
def keysAt(h:∀e∈es,keyOk kt e.1/\Den X.K (cut H F) e.2.1 e.1)(hk:m9 kt k=rp)(hd:Den X.K H kv k):KeysAt X H kt es k kv:=
 ⟨λe he=>⟨(h e he).1,(h e he).2.up i4⟩,u9 hk,hd⟩
def a3Z(X:Cx)(neg:Bool):R2:=λx y H Q=>∃a es kt k,y=.ref a/\H a=cz (c6 a es)/\KeysAt X H kt es k x/\Q (.bl (neg !=s9 es k)) H
def a5D(hu:X.A.units+64<du):OpR X (bU .In) (a3Z X xn):=by
 intro pins s Y H x y v w Q I rx ry h;obtain⟨a,es,kt,k,rfl,hH,K,q⟩:=h;cases (show w=be a from ry)
 exact b9P (by lia) I hH K rx λs' I'=>⟨.bl _,H,I',rfl,by simpa using q⟩
def Y2(hu:X.A.units+64<du):OpR X (bU .NotIn) (a3Z X rp):=by
 intro pins s Y H x y v w Q I rx ry h;obtain⟨a,es,kt,k,rfl,hH,K,q⟩:=h;cases (show w=be a from ry)
 exact b2f (by lia) I hH K rx λs' I'=>⟨.bl _,H,I',rfl,by simpa using q⟩
def a6x(h:dIn neg kt k d=cz r):∃kvs,d=.dict kvs/\m9 kt k=rp/\r=.bool (neg !=w6 kvs k):=by
 cases d with
 |dict kvs=>
  have h':(if m9 kt k then cz (dE (neg !=w6 kvs k)) else p4)=cz r:=h;by_cases c:m9 kt k=rp
  ·rw[aC c]at h';exact⟨kvs,rfl,c,(aK h').symm⟩
  ·rw[aI c]at h';cases h'
 |_=>cases h
def b4J(ho:OpR X (bU op) (a3Z X neg))(ha:PX X M a fa ca)(hb:PX X M b fb (.bor (.d kt u)))(S:StE X.K M U Y H P F)(e1:Same H H1)(e2:Same H1 H2)
  (r1:ResR X.K ca H H1 F v k) (r2:ResR X.K (.bor (.d kt u)) H1 H2 F w d) (hr:dIn neg kt k d=cz r) (q:Q (.bl (match r with|.bool b=>b|_=>xn)) H2):a3Z X neg v w H2 Q:=by
 obtain⟨kvs,rfl,hk,rfl⟩:=a6x hr;obtain⟨fp,o,_⟩:=r2;obtain⟨p,es,ds,fs,rfl,hH,hd,_,h5,_,hl,_⟩:=o.dict;cases hd
 refine⟨p,es,kt,k,rfl,hH,keysAt h5 hk (r1.den.up e2),?_⟩;rw[<-w8 hl];exact q
def b7J(ho:OpR X (bU op) (a3Z X neg))(ha:PX X M a fa ca)(hb:PX X M b fb (.bor (.d kt u)))(hm:fq op b=xn:=by first|exact a0h _|with_unfolding_all rfl):PTX X M (.Compare a [op] [b] pos) (tB (e2 (dIn neg kt) fa fb)):=by
 obtain⟨ta,pa,qa⟩:=ha.out;obtain⟨tb,pb,qb⟩:=hb.out;refine .mk ⟨_,a0v ho pa pb hm,λU Y H P F k Q S hf q=>?_⟩;obtain⟨d,hf,hk⟩:=bnd hf;cases J8 hk
 obtain⟨x,y,h1,h2,h3⟩:=C3 hf;exact qa U Y H P F x _ S h1 λv H1 e1 r1=>qb U Y H1 P F y _ (S.grow e1) h2 λw H2 e2 r2=>b4J ho ha hb S e1 e2 r1 r2 h3 ⟨k,rfl,q H2 (e1.trans e2)⟩
def c1f(X:Cx)(td ty:TE):TE:=λY H Q=>td Y H λx H1=>ty Y H1 λy H2=>∃a es kt k,x=.ref a/\H2 a=cz (c6 a es)/\KeysAt X H2 kt es k y/\s9 es k=rp/\∀e∈es,e.1=k->Q e.2.2 H2
def b2h(hu:X.A.units+64<du)(ho:PE X a td)(hi:PE X b ty)(hs:a4x b):PE X (.Subscript a b pos) (c1f X td ty):=by
 intro pins s Y H Q I h;refine b9O sd.lookup hs (L2.thn (ho pins s Y H _ I h) λu s1 ⟨x,H1,I1,rx,q1⟩=>L2.thn (hi pins s1 Y H1 _ I1 q1) λiv s2 ⟨y,H2,I2,ry,p,es,kt,k,ex,hH,K,hh,q2⟩=>?_);subst ex;obtain rfl:u=be p:=rx;exact⟨j7 I2 hH,a2Z (by lia) I2 hH K ry hh λe he gu x s3 I3 r3=>⟨e.2.2,H2,I3,r3,q2 e he gu⟩⟩
def b0e(h:b0c kt d k=cz r):∃kvs,d=.dict kvs/\m9 kt k=rp/\D0 kvs k=cz r:=by
 cases d with
 |dict kvs=>
  have h':(if m9 kt k then D0 kvs k else p4)=cz r:=h;by_cases c:m9 kt k=rp
  ·rw[aC c]at h';exact⟨kvs,rfl,c,h'⟩
  ·rw[aI c]at h';cases h'
 |_=>cases h
def b7K{es:List (D×V×V)}{ds:List D}{e:D×V×V}(h6:ListAll (Own X.K H F u) (es.map (·.2.2)) ds fs)(hl:ds.length=es.length)(hn:(es.map (·.1)).Nodup)(K:KeysAt X H kt es k kv)(he:e∈es)(gu:e.1=k) :
  ∃(j:Nat) (d:D) (f:List au),es[j]?=cz e/\ds[j]?=cz d/\D0 ((es.map (·.1)).zip ds) k=cz d/\Own X.K H F u e.2.2 d f/\∀x∈f,x∈fs:=by
 obtain⟨j,hj⟩:=bS.mp he;have gX:j<ds.length:=by rw[hl];exact (aN.mp hj).1
 obtain⟨w,f,pre,post,z1,z2,z3,_⟩:=h6.at_ (ai gX);rw[aZ,hj]at z1;cases z1
 refine⟨j,ds[j],f,hj,ai gX,a0J hl (λe he=>K.eqv he) hn hj gu (ai gX),z2,λx hx=>?_⟩;rw[z3];exact ax _ (aO _ hx)
end
section
variable {X:Cx}{M:List Md}{a b e o:Expr}{es:List Expr}{fa fb:EvE}{ca cb:Cat}{kt:Bool}{u:Ty}{pos apos cM:fQ}{to:TE}{t:TA}{name:bI}{id:String}{r:V->List V->Hp->VK->Prop}
def b7L(hu:X.A.units+64<du)(ha:PX X M a fa (.bor (.d kt u)))(hb:PX X M b fb cb)(hs:a4x b:=by exact λ_ _=>rfl):PX X M (.Subscript a b pos) (e2 (b0c kt) fa fb) (.bor u):=by
 obtain⟨ta,pa,qa⟩:=ha.out;obtain⟨tb,pb,qb⟩:=hb.out;refine .mk ⟨_,b2h hu pa pb hs,λU Y H P F d Q S hf q=>?_⟩;obtain⟨x,y,h1,h2,h3⟩:=C3 hf;obtain⟨kvs,rfl,hk,hg⟩:=b0e h3;refine qa U Y H P F _ _ S h1 λv H1 e1 ⟨fp,o,sub⟩=>qb U Y H1 P F y _ (S.grow e1) h2 λw H2 e2 r2=>?_
 obtain⟨p,es,ds,fs,rfl,hH,hd,rfl,h5,h6,hl,hn⟩:=(o.grow e2).dict;cases hd
 have K:=keysAt (X:=X) h5 hk r2.den;refine⟨p,es,kt,y,rfl,hH,K,by rw[<-w8 hl];exact a0K hg,λe he gu=>?_⟩;obtain⟨j,d',f,_,_,g',o',s'⟩:=b7K h6 hl hn K he gu;rw[hg]at g';cases g'
 exact q _ H2 (e1.trans e2) ⟨f,o',λx hx=>sub x (aw _ (s' x hx))⟩
def c1g(r:V->List V->Hp->VK->Prop)(to:TE)(t:TA):TE:=λY H Q=>to Y H λx H1=>(∃p es,x=.ref p/\H1 p=cz (c6 p es))/\t Y H1 λxs H2=>r x xs H2 Q
def b2i(slot:Slot "dict" name id)(wH:typeOf (.builtin id)=pure (.type "method_descriptor"))(hm:MtR X id r)(ho:PE X o to)(ha:PA X (e::es) t)
  (fx:dC o name X.env (cG o X.env)=cG o X.env:=by rfl)
  (lC:((cC cM (ao (e::es) X.env)).all (λx=>!x.1)&&(oI cM (kg [] X.env)).all (λx=>x.1.isSome)
   && decide ((e::es).length+([]:List iE).length+(if ([]:List iE).isEmpty then 0 else 1)<30))=rp:=by rfl)
  (fw:(apos.endLine==cM.line)=rp:=by rfl) (hs:ao (e::es) X.env=(xn,cG e X.env)::ao es X.env:=by rfl) (hX:(cC cM (ao es X.env)).any (·.1)=xn:=by rfl) :
  PE X (.Call (.Attribute o name apos) (e::es) [] cM) (c1g r to t):=by
 intro pins s Y H Q I h;refine Dp fx lC fw rfl (L2.thn (ho pins s Y H _ I h) λv s1 ⟨x,H1,I1,r1,⟨p,HY,ex,hH⟩,q1⟩=>?_);subst ex;obtain rfl:v=be p:=r1;refine⟨"dict",id,iK,slot,wH,j7 I1 hH,L3 I1 hH,?_⟩;have hA:=ha cM pins s1 Y H1 _ I1 q1;rw[hs]at hA ⊢;refine fR (by show (xn||(cC cM (ao es X.env)).any (·.1))=xn;rw[hX]<;>rfl) (oX ?_);exact L2.thn hA λus s2 ⟨vs,H2,I2,r2,q2⟩=>hm pins s2 Y H2 (.ref p) vs (.ref p) us Q I2 rfl r2 q2
def b0f:CallR X (.builtin "len") (λxs H Q=>∃p es,xs=[V.ref p]/\H p=cz (c6 p es)/\Q (.int es.length) H):=by
 intro pins s Y H xs us Q I rv h;obtain⟨p,es,rfl,hH,q⟩:=h;obtain⟨w,rfl,rw⟩:=rv.one;cases (show w=be p from rw)
 exact b7I I hH λt s' I'=>⟨.int es.length,H,I',⟨t,rfl⟩,q⟩
def a1T(h:cf)(hb:df<h.objs.size):ObjOk P w H (h.push {cls:=.type "dict",data:=.dict #[]}) h.objs.size (c6 h.objs.size []):=
 Y1 (hZ.mpr (dN (bK hb))) (cj _) bJ (aL _ rfl) ⟨rfl,rfl,rfl⟩ rfl (λ_=>rfl) .nil
def a6y:PE X (.Dict [] [] pos) (λ_ H Q=>∀p,H p=p4->Q (.ref p) (upd H p (c6 p []))):=λpins s Y H Q I h=>
 wpAny_Dict_empty ⟨.ref s.heap.objs.size,_,I.laid (a:=s.heap.objs.size) (o:=c6 s.heap.objs.size []) (t':=s.toks) (λ_ _ q=>af _ q) (ay _) (a1T s.heap I.sysBelow),rfl,h _ (I.hok.fresh (ay _))⟩
def Q8(kt:Bool)(u:Ty):PX X M (.Dict [] [] pos) (eC (.dict [])) (.new (.d kt u)):=by
 refine .mk ⟨_,a6y,λU Y H P F d Q S hf q=>?_⟩;cases hf
 intro p hp;refine q _ _ (j6 hp _) ⟨[p],?_,by simp,λa ha=>by rw[ak.mp ha];exact hp⟩;simp only[Own];exact⟨p,[],[],[],rfl,g9,rfl,rfl,⟨bJ,λe he=>(nomatch he)⟩,l7⟩
end
section
variable {K:ae}{H:Hp}{F:List au}
theorem StE.dict(S:StE K M U Y H P F)(hm:M[i]?=cz (.own (.d kt u))) :
  ∃a es ds fs,Y[i]?=cz (cz (.ref a))/\H a=cz (c6 a es)/\U.getD i .none=.dict ((es.map (·.1)).zip ds)/\(∀e∈es,keyOk kt e.1/\Den K (cut H F) e.2.1 e.1)/\ListAll (Own K H F u) (es.map (·.2.2)) ds fs/\ds.length=es.length/\(es.map (·.1)).Nodup:=by
 obtain⟨v,f,h1,o,_⟩:=S.get hm;obtain⟨a,es,ds,fs,rfl,h2,h3,_,h5,h6,h7,h8⟩:=o.dict;exact⟨a,es,ds,fs,h1,h2,h3,h5,h6,h7,h8⟩
theorem a3a:∀{es:List (D×V×V)} {j:Nat} {e:D×V×V},(es.map (·.1)).Nodup->(∀e∈es,aH e.1 k=rp↔e.1=k)->es[j]?=cz e->e.1=k->(es.map λe=>if aH e.1 k then (e.1,e.2.1,v) else e).map (·.2.2)=(es.map (·.2.2)).set j v
 |[],j,e,_,_,hj,_=>by simp at hj
 |e0::es,0,e,hn,jk,hj,gu=>by
  rw[aA,bB]at hn;cases hj
  have ki:es.map (λe=>if aH e.1 k then (e.1,e.2.1,v) else e)=es:=by
   have:∀e'∈es,(if aH e'.1 k then (e'.1,e'.2.1,v) else e')=e':=λe' lW=>by
    rw[aI];intro q;exact hn.1 (by rw[gu,<-(jk e' (aw _ lW)).mp q];exact bO lW)
   rw[cL this,g_]
  rw[aA,aC ((jk _ av).mpr gu),ki];rfl
 |e0::es,j+1,e,hn,jk,hj,gu=>by
  rw[aA,bB]at hn;have rg:es[j]?=cz e:=by simpa using hj
  have gN:¬ aH e0.1 k=rp:=λq=>hn.1 (by rw[(jk _ av).mp q,<-gu];exact bO (bz rg))
  rw[aA,aI gN,aA,aA,iB,a3a hn.2 (λe he=>jk e (aw _ he)) rg gu]
def Pend.dput(h:Pend K ([]++[.own u]) ([]++[d]) ([]++[cz v]) M U Y H P F)(hm:M[i]?=cz (.own (.d kt u)))(hk:keyOk kt k)(wZ:Den K H kv k) :
  ∃a es ds fs,Y[i]?=cz (cz (.ref a))/\H a=cz (c6 a es)/\U.getD i .none=.dict ((es.map (·.1)).zip ds)/\(∀e∈es,keyOk kt e.1/\Den K (cut H F) e.2.1 e.1)/\ListAll (Own K H F u) (es.map (·.2.2)) ds fs/\ds.length=es.length/\(es.map (·.1)).Nodup/\
   StR K M (U.set i (.dict (n4 ((es.map (·.1)).zip ds) k d))) Y (upd H a (c6 a (Q7 es k kv v))) P F:=by
 obtain⟨_,_,S⟩:=h;obtain⟨G,h1,h2,h3⟩:=S.all;have mq:StAll K H F (.own u::M) (d::U) (cz v::Y) G:=by simpa using h1
 simp only[StAll]at mq;obtain⟨d',U',o',Y',fv,G2,e1,e2,rfl,⟨v',e3,ov⟩,h5⟩:=mq;cases e1
 cases e2
 cases e3
 obtain⟨dd,oo,f,pre,post,q1,q2,⟨v2,rfl,q3⟩,rfl,q5⟩:=h5.at_ hm;obtain⟨a,es,ds,fs,rfl,r2,r3,rfl,r5,r6,hl,hn⟩:=q3.dict;have oY:a∈F:=h3 a (by simp);have fX:∀o,Same (cut H F) (cut (upd H a o) F):=λo b o' hb=>by
  obtain⟨n1,n2⟩:=p5 hb;exact j5 n1 (by rw[f7 (show b≠a from λz=>n1 (z▸oY))];exact n2)
 have cnt:∀b,b=a->(pre++post).count b=0/\fs.count b=0/\fv.count b=0:=λb e=>by
  subst e;have:=cO.mp h2 b;simp only[bu,bw,gS]at this ⊢;exact⟨by lia,by lia,by lia⟩
 have kk:∀(l:List au) (o:HO),(∀b,b=a->l.count b=0)->∀b∈l,upd H a o b=H b:=λl o hc b hb=>f7 λz=>by
  have:=hc b z;rw[dY]at this;exact this hb
 have w_:Den K (cut H F) kv k:=wZ.imm_out S.lst k (V5 _ hk.1);have jk:∀e∈es,aH e.1 k=rp↔e.1=k:=λe he=>B6 e.1 k (r5 e he).1.1 hk.1
 have fin:∀(fS:List (D×V×V)) (iY:List D) (kN:List au),(fS.map (·.1)).Nodup->(∀e∈fS,keyOk kt e.1/\Den K (cut H F) e.2.1 e.1)->ListAll (Own K (upd H a (c6 a fS)) F u) (fS.map (·.2.2)) iY kN->(∀b,kN.count b<=fs.count b+fv.count b)->
   StR K M (U.set i (.dict ((fS.map (·.1)).zip iY))) Y (upd H a (c6 a fS)) P F:=λfS iY kN uR rW ha pH=>by
  have o1:Own K (upd H a (c6 a fS)) F (.d kt u) (.ref a) (.dict ((fS.map (·.1)).zip iY)) (a::kN):=by
   simp only[Own];exact⟨a,fS,iY,kN,rfl,g9,rfl,rfl,⟨uR,λe he=>⟨(rW e he).1,(rW e he).2.up (fX _)⟩⟩,ha⟩
  have q:=q5 (upd H a (c6 a fS)) F (.own (.d kt u)) (.dict ((fS.map (·.1)).zip iY)) (cz (.ref a)) _ (kk _ _ λb e=>(cnt b e).1) (fX _) ⟨_,rfl,o1⟩;rw[set_same (l:=Y) q2,set_same (l:=M) hm]at q;refine⟨⟨_,q,Q4 h2 λb=>?_,λb hb=>?_⟩,λb hb=>?_,S.prot.trans (fX _)⟩
  ·have:=pH b;simp only[bu,bw,dI];lia
  ·have hc:0<(fv++(pre++(a::fs++post))).count b:=by
    have h0:=dG.mpr hb;have:=pH b;simp only[bu,bw,dI]at h0 ⊢;lia
   exact h3 b (dG.mp hc)
  ·by_cases e:b=a
   ·subst e;exact⟨⟨c6 b fS,trivial⟩,g9⟩
   ·obtain⟨ys,y⟩:=S.lst b hb;exact⟨ys,by rw[f7 e];exact y⟩
 refine⟨a,es,ds,fs,q2,r2,by rw[v8 q1];exact r3,r5,r6,hl,hn,?_⟩;cases hf:s9 es k with
 |false=>
  rw[a2Y hf,a4y (by rw[w8 hl];exact hf),<-W3 (kv:=kv) (v:=v) hl];refine fin (es++[(k,kv,v)]) (ds++[d]) (fs++fv) ?_ ?_ ?_ λb=>by rw[bu];exact ay _
  ·rw[aQ,bh];refine⟨hn,by simp,λx hx y hy e=>?_⟩;simp only[aA,cV,ak]at hy;subst hy;subst e;obtain⟨e,he,rfl⟩:=bj.mp hx;unfold s9 at hf;rw[cI]at hf;exact hf e he ((jk e he).mpr rfl)
  ·intro e he;rcases az.mp he with z|z
   ·exact r5 e z
   ·rw[ak.mp z];exact⟨hk,w_⟩
  ·rw[aQ];refine (l5 (fX _) r6 (kk _ _ λb e=>(cnt b e).2.1)).append ?_;have:=l0 (R:=Own K (upd H a (c6 a (es++[(k,kv,v)]))) F u) (ov.frame (fX _) u (kk _ _ λb e=>(cnt b e).2.2)) l7
   rwa[bM]at this
 |true=>
  have hh:=hf;unfold s9 at hf;rw[er]at hf;obtain⟨e,he,gu⟩:=hf;have rj:=(jk e he).mp gu;obtain⟨j,hj⟩:=bS.mp he;have sF:j<ds.length:=by rw[hl];exact (aN.mp hj).1
  have pB:Q7 es k kv v=es.map λe=>if aH e.1 k then (e.1,e.2.1,v) else e:=by unfold Q7;rw[hh];rfl
  have ox:n4 ((es.map (·.1)).zip ds) k d=(es.map (·.1)).zip (ds.set j d):=by
   unfold n4;rw[w8 hl,hh];exact O6 (v:=v) hl jk hn hj rj
  have oB:(Q7 es k kv v).map (·.1)=es.map (·.1):=by rw[pB];exact a0I
  rw[ox,<-oB];obtain⟨w3,f3,a1,a2,s1,s2,rG,s4⟩:=r6.zip (ai sF);have qY:(Q7 es k kv v).map (·.2.2)=(es.map (·.2.2)).set j v:=by
   rw[pB];exact a3a hn jk hj rj
  refine fin (Q7 es k kv v) (ds.set j d) (a1++(fv++a2)) (by rw[oB];exact hn) ?_ ?_ λb=>by rw[rG];simp only[bu];lia
  ·intro e' lW;rw[pB]at lW;obtain⟨e0,va,rfl⟩:=bj.mp lW
   split
   ·exact r5 e0 va
   ·exact r5 e0 va
  ·rw[qY];have c5:∀b,b=a->(a1++a2).count b=0:=λb e=>by have:=(cnt b e).2.1;rw[rG]at this;simp only[bu]at this ⊢;lia
   exact s4 _ F v d fv (kk _ _ c5) (fX _) (ov.frame (fX _) u (kk _ _ λb e=>(cnt b e).2.2))
end
noncomputable def z7(i:Nat)(kt:Bool)(fk fv:EvE):EvS:=λU=>(fv U).bind λd=>(fk U).bind λk=>match U.getD i .none with
 |.dict kvs=>if m9 kt k&&decide (kvs.length<1000000) then cz (.nx (U.set i (.dict (n4 kvs k d)))) else p4
 |_=>p4
abbrev EvX:=List D->Option (D×List D)
def n5(kvs:List (D×D))(k d:D):List (D×D):=if w6 kvs k then kvs else kvs++[(k,d)]
section
variable {X:Cx}{M M1 ML:List Md}{e k v:Expr}{fk fe fv:EvE}{f:EvX}{ck:Cat}{kt:Bool}{u w:Ty}{pos apos cM iP:fQ}
def b6f(X:Cx)(td ty tv:TE):TS:=λD Y H=>tv Y H λv H1=>td Y H1 λx H2=>ty Y H2 λy H3=>∃a es kt k,x=.ref a/\H3 a=cz (c6 a es)/\KeysAt X H3 kt es k y/\es.length<aV/\D.nx Y (upd H3 a (c6 a (Q7 es k y v)))
def a5E(hu:X.A.units+64<du)(ho:PE X o td)(hi:PE X k ty)(hv:PE X v tv)(hs:eX v (cz (.Subscript o k iP)) pos.line X.env=pure xn) :
  PS X (.Assign [.Subscript o k iP] v pos) (b6f X td ty tv):=by
 intro pins s Y H D I h;refine wpAny_Assign_Subscript (L2.thn (hv pins s Y H _ I h) λr s1 ⟨v,H1,I1,rv,q1⟩=>L2.thn (ho pins s1 Y H1 _ I1 q1) λu s2 ⟨x,H2,I2,rx,q2⟩=>L2.thn (hi pins s2 Y H2 _ I2 q2) λiv s3 ⟨y,H3,I3,ry,a,es,kt,k,ex,hH,K,hl,q3⟩=>?_) hs;subst ex;obtain rfl:u=be a:=rx;exact a7Y (by lia) I3 hH K ry rv hl λs4 I4=>⟨Y,_,I4,q3⟩
def a2w(i:Nat)(hu:X.A.units+64<du)(hk:PX X M1 k fk ck)(hv:PMX X M v fv u M1)(hN:X.N[i]?=cz x:=by rfl)(tL:Vis X.env.scope x:=by first|exact cg rfl|exact bP (cg rfl)|exact bP (bP rfl))(hd:(x==("__debug__":bI))=xn:=by decide)
  (jg:(x==("__classdict__":bI))=xn:=by decide) (hm:M1[i]?=cz (.own (.d kt u)):=by rfl) (hs:eX v (cz (.Subscript (.Name x px) k iP)) pos.line X.env=pure xn:=by rfl) :
  PSX X w ML M (.Assign [.Subscript (.Name x px) k iP] v pos) (z7 i kt fk fv) M1:=by
 obtain⟨tv,pv,qv⟩:=hv;obtain⟨tk,pk,qk⟩:=hk.out;refine .mk ⟨_,a5E hu (x9 hN tL hd jg) pk pv hs,λD U Y H P F o S hg kk=>?_⟩;obtain⟨d,h1,g1⟩:=bnd hg;obtain⟨y,h2,g2⟩:=bnd g1;refine qv [] [] [] U Y H P F d _ S.pend h1 λv1 H1 F1 e1 S1=>?_
 obtain⟨a,es,ds,fs,ha,hH,hU,_⟩:=S1.e.dict hm;rw[hU]at g2;have mK:(if (m9 kt y&&decide (((es.map (·.1)).zip ds).length<1000000))=rp then cz (Out.nx (U.set i (.dict (n4 ((es.map (·.1)).zip ds) y d)))) else p4)=cz o:=g2;by_cases c:(m9 kt y&&decide (((es.map (·.1)).zip ds).length<1000000))=rp
 ·rw[aC c]at mK;cases mK
  rw[ar]at c;refine⟨_,ha,qk U Y H1 P F1 y _ S1.e h2 λkv H2 e2 r2=>?_⟩;obtain⟨a',fS,iY,kN,tZ,yB,pq,hK,_,qz,_,S3⟩:=(S1.grow e2).dput hm (u9 c.1) r2.den;rw[ha]at tZ;cases tZ
  rw[hU]at pq
  injection pq with pq
  refine⟨a,fS,kt,y,rfl,yB,keysAt hK c.1 r2.den,?_,kk Y _ F1 (by rw[pq];exact S3)⟩;have hlen:((fS.map (·.1)).zip iY).length=fS.length:=by rw[dS,ag,qz,jZ]
  rw[<-hlen,<-pq];exact fZ (aR c.2) (by rw[cJ];decide)
 ·rw[aI c]at mK;cases mK
def b7M(X:Cx):V->List V->Hp->VK->Prop:=λx xs H Q=>∃p es kt k y z,x=.ref p/\xs=[y,z]/\H p=cz (c6 p es)/\KeysAt X H kt es k y/\es.length<aV/\(s9 es k=xn->Q z (upd H p (c6 p (es++[(k,y,z)]))))/\∀e∈es,e.1=k->Q e.2.2 H
def b4K(hu:X.A.units+64<du):MtR X "dict.setdefault" (b7M X):=by
 intro pins s Y H x xs v us Q I rx rv h;obtain⟨p,es,kt,k,y,z,rfl,rfl,hH,K,hl,q1,q2⟩:=h;cases (show v=be p from rx)
 obtain⟨w1,w2,rfl,r1,r2⟩:=vals2 rv;exact b4I (by lia) I hH K r1 r2 hl (λhf s' I'=>⟨z,_,I',r2,q1 hf⟩) λe he gu x s' I' r'=>⟨e.2.2,H,I',r',q2 e he gu⟩
end
def intsOf:List D->Option (List Int)
 |[]=>cz []
 |.int i::r=>(intsOf r).map (i::·)
 |_=>p4
theorem E8:∀{ds:List D} {is:List Int},intsOf ds=cz is->ds=is.map .int
 |[],is,h=>by cases h;rfl
 |.int i::r,is,h=>by
  obtain⟨js,h1,rfl⟩:=eA.mp (show (intsOf r).map (i::·)=cz is from h);rw[aA,<-E8 h1]
 |.none::_,_,h|.bool _::_,_,h|.str _::_,_,h|.list _::_,_,h|.tuple _::_,_,h|.dict _::_,_,h=>nomatch h
def U2(is:List Int):intsOf (is.map .int)=cz is:=by
 induction is with
 |nil=>rfl
 |cons i is ih=>show (intsOf (is.map .int)).map (i::·)=_;rw[ih];rfl
section
variable {X:Cx}{M:List Md}{a b e tg:Expr}{fa fb:EvE}{ca cb:Cat}{pos p apos cM:fQ}
def a5F(r:jz h us ds as):∀{j:Nat} {u:aj},us[j]?=cz u->∃d bs,ds[j]?=cz d/\Reads h u d bs:=by
 induction ds generalizing us as with
 |nil=>intro j u hu;cases r;simp at hu
 |cons d ds ih=>
  intro j u hu;cases r with
  |cons r1 r2=>
   cases j with
   |zero=>cases hu;exact⟨_,_,rfl,r1⟩
   |succ j=>exact ih r2 (by simpa using hu)
open Classical in
noncomputable def b4L(h:cf)(d:D)(u:aj):Bool:=decide (∃d' bs,Reads h u d' bs/\d'.canLay0=rp/\aH d' d=rp)
def a8X{d e:D}(r:Reads h u e bs)(hl:e.canLay0=rp):b4L h d u=aH e d:=by
 unfold b4L;cases q:aH e d with
 |true=>exact @aE _ (_) ⟨e,bs,r,hl,q⟩
 |false=>
  refine @aW _ (_) ?_;rintro⟨d',GP,r1,r2,r3⟩;rw[SeqAt.Reads.unique d' e u _ _ r2 r1 r,q]at r3;cases r3
end
def a8Y{X:Cx}{pins:List (au×gE)}{Y:L2.St}{H:Hp}{s:aq}{h':cf}{t':Nat}{ch:List au}{T:au}{xs:List V}(I:Inv X pins Y H s)(k:∀b o,b∉ch->s.heap.get? b=cz o->h'.get? b=cz o)
  (hf:∀b∈ch,a0u X pins H b) (hT:s.heap.objs.size<=T) (new:ObjOk X.prog X.w (upd H T (.tup xs)) h' T (.tup xs)):Inv X pins Y (upd H T (.tup xs)) {s with heap:=h',toks:=t'}:=by
 have hn:H T=p4:=I.hok.fresh hT;have neT:∀b o,s.heap.get? b=cz o->b≠T:=λb o e z=>absurd (bH (aM e) (by rw[z];exact hT)) (dQ _)
 have qU:∀b u,H b=cz u->b∉ch:=λb u e hb=>by rw[(hf b hb).1]at e;cases e
 refine I.step (g':=s.gens) (d':=s.drawn) (ch:=ch) (λb hb=>⟨(hf b hb).2.2.2.1,(hf b hb).2.1,(hf b hb).2.2.2.2.1,(hf b hb).2.2.2.2.2⟩) (λb o _ _ hc e _=>k b o hc e) (λb o _ _ hc e _=>⟨o.slots,k b o hc e⟩) (λb o _ e n=>by rw[f7 (neT b o e)];exact n)
  (λb o hc e=>⟨o,k b o hc e⟩) (λb ys e=>by rw[f7 (m8 e hn)];exact e) (λb o u e=>by rw[f7 (m8 e hn)];exact e) (λb ps e=>⟨#[],by rw[f7 (m8 e hn),e];simp⟩) (λm hm=>?_) (λb u e=>?_) I.bare
 ·obtain⟨o,es,ep,ho,r⟩:=hm;exact⟨o,es,ep,k _ o (λhb=>(hf _ hb).2.1 rfl) ho,r⟩
 ·by_cases hb:b=T
  ·subst hb;rw[g9]at e;cases e;exact new
  ·rw[f7 hb]at e;refine (I.hok b u e).stay (λc v hc q=>k c v ?_ q) (λc q=>by rw[f7 (m8 q hn)];exact q) λc ys q=>by rw[f7 (m8 q hn)];exact q
   rcases hc with z|z
   ·rw[z];exact qU b u e
   ·exact qU c _ z
def a2x{X:Cx}{pins:List (au×gE)}{Y:L2.St}{H:Hp}{s:aq}{h':cf}{t':Nat}{ch:List au}(I:Inv X pins Y H s)(k:∀b o,b∉ch->s.heap.get? b=cz o->h'.get? b=cz o)
  (hf:∀b∈ch,a0u X pins H b):Inv X pins Y H {s with heap:=h',toks:=t'}:=by
 have qU:∀b u,H b=cz u->b∉ch:=λb u e hb=>by rw[(hf b hb).1]at e;cases e
 refine I.step (g':=s.gens) (d':=s.drawn) (ch:=ch) (λb hb=>⟨(hf b hb).2.2.2.1,(hf b hb).2.1,(hf b hb).2.2.2.2.1,(hf b hb).2.2.2.2.2⟩) (λb o _ _ hc e _=>k b o hc e) (λb o _ _ hc e _=>⟨o.slots,k b o hc e⟩) (λb o _ e n=>n)
  (λb o hc e=>⟨o,k b o hc e⟩) (λb ys e=>e) (λb o u e=>e) (λb ps e=>⟨#[],by rw[e];simp⟩) (λm hm=>?_) (λb u e=>?_) I.bare
 ·obtain⟨o,es,ep,ho,r⟩:=hm;exact⟨o,es,ep,k _ o (λhb=>(hf _ hb).2.1 rfl) ho,r⟩
 ·refine (I.hok b u e).stay (λc v hc q=>k c v ?_ q) (λc q=>q) λc ys q=>q
  rcases hc with z|z
  ·rw[z];exact qU b u e
  ·exact qU c _ z
def Ite(K:ae)(a:au):It:=
 ⟨λi H=>∃xs x,SqL K H a xs/\xs[i]?=cz x,λi H x H'=>∃T y,H T=p4/\H'=upd H T (.tup [.int i,y])/\x=.ref T/\∀xs,SqL K H a xs->xs[i]?=cz y,λi H=>∃xs,SqL K H a xs/\xs.length<=i⟩
def b0g{P:bA}{w:bX}{K:ae}{elts:List Expr}{kk:Nat}{iP:fQ}(a e it:au)(Fn:e≠it):Turn P w K (.Tuple elts kk iP) (Ite K a) [e,it] e (λi h=>(∃old,IsEnum h e it i old)/\h.IsListIter it a i) where
 mem:=by simp
 obj:=λi h st b hb=>by
  obtain⟨⟨old,he⟩,o,eo,c,d⟩:=st;rcases aF.mp hb with rfl|hb
  ·exact⟨_,he,λv z=>by cases z⟩
  ·cases ak.mp hb
   exact⟨o,eo,λv z=>by rw[d]at z;cases z⟩
 keep:=λi h h' st k=>by
  obtain⟨⟨old,he⟩,hit⟩:=st;exact⟨⟨old,k e (by simp) _ he⟩,hit.at λo x=>k it (by simp) o x⟩
 item:=by
  intro X hP hw hK hc i pins s Y H E I hf st hg;subst hP hw hK;obtain⟨xs,x,hq,hx⟩:=hg;obtain⟨cQ,rv,p,hz⟩:=I.list hq;obtain⟨u,hu,ru⟩:=rv.get hx;obtain⟨⟨old,he⟩,hit⟩:=st;have hle:a≠e:=λz=>by
   obtain⟨o,eo,c,_⟩:=p.isList;rw[z,he]at eo;cases eo
   exact absurd (show ie "enumerate"=ie "list" from c) (by decide)
  have EU:a≠it:=λz=>by
   obtain⟨o,eo,c,_⟩:=p.isList;obtain⟨o2,Gp,c2,_⟩:=hit;rw[z,Gp]at eo;cases eo
   rw[c2]at c;exact absurd c (by decide)
  have W:=WalksT.enumerate (prog:=X.prog) (w:=X.w) (A:=X.A) (I.ok.hd hc) e it a Fn hle EU cQ.toArray;have mX:i<cQ.toArray.size:=by
   have:=(aN.mp hu).1;simpa using this
  refine W.item i s _ E mX ⟨⟨old,he⟩,hit,p.isList⟩ λT vals h' tk hP hT uG xD hk=>⟨.ref T,rfl,W.go elts kk iP i T {s with heap:=h',toks:=tk} _ E xD λh2 wJ Ce=>?_⟩
  obtain⟨t,y,hy,rfl⟩:=hP;have ey:y=u:=by
   have h1:cQ[i]?=cz y:=by simpa using hy
   rw[hu]at h1;exact (aK h1).symm
  subst ey;have xx:=W.apart i T h' xD;obtain⟨oT,eT,cT⟩:=uG;have hn:H T=p4:=I.hok.fresh hT;have new:ObjOk X.prog X.w (upd H T (.tup [.int i,x])) h2 T (.tup [.int i,x]):=by
   refine⟨by rw[cJ];show 2<=_;decide,[.int i t,y],?_,oT,Ce T oT xx eT,cT⟩;exact .cons ⟨t,rfl⟩ (.cons ru .nil)
  refine⟨.ref T,upd H T (.tup [.int i,x]),a8Y (s:=s) (t':=tk) I (λb o hb q=>Ce b o hb (hk b o hb q)) hf hT new,rfl,⟨T,x,hn,rfl,rfl,λys Ee=>by rw[I.list_inj Ee hq];exact hx⟩,⟨wJ.1,wJ.2.1⟩,λb hb=>?_⟩;rw[f7 (λz=>xx (by rw[<-z];exact hb))];exact (hf b hb).1
 done:=by
  intro X hP hw hK hc i pins s Y H E I hf st hg;subst hP hw hK;obtain⟨xs,hq,hx⟩:=hg;obtain⟨cQ,rv,p,hz⟩:=I.list hq;have hl:=rv.length;obtain⟨⟨old,he⟩,hit⟩:=st;exact wpAny_pyNext_enum_end (I.ok.hd hc) he hit p.isList (gD (by simp;lia)) λh' hx=>⟨rfl,a2x (t':=s.toks) I (λb o hb y=>hx b o (λz=>hb (by simp[z])) y) hf⟩
 self:=λ_ _ _ _ _ st h=>by
  obtain⟨⟨old,he⟩,_⟩:=st;exact wpAny_pyIter_enum he h
def N5:List D->Nat->List D
 |[],_=>[]
 |d::ds,k=>.tuple [.int k,d]::N5 ds (k+1)
noncomputable def iEn(a:EvE):EvA:=λU=>(a U).bind λd=>(asL d).bind λds=>cz (N5 ds 0)
theorem a3b:∀(ds:List D) (k:Nat),(N5 ds k).length=ds.length
 |[],_=>rfl
 |d::ds,k=>by show (N5 ds (k+1)).length+1=_;rw[a3b ds];rfl
theorem a3c:∀(ds:List D) (k i:Nat) (d:D),ds[i]?=cz d->(N5 ds k)[i]?=cz (.tuple [.int ((k+i:Nat):Int),d])
 |[],_,i,d,h=>by simp at h
 |d0::ds,k,0,d,h=>by
  have:d0=d:=by simpa using h
  subst this;rfl
 |d0::ds,k,i+1,d,h=>by
  have:=a3c ds (k+1) i d (by simpa using h);show (N5 ds (k+1))[i]?=_;rw[this,nu,Nat.add_comm 1]
section
variable {X:Cx}{M ML:List Md}{a e iter:Expr}{elts:List Expr}{kk:Nat}{iP pos p:fQ}{fa:EvE}{ca:Cat}{u:Ty}{body:List iz}{g:EvS}
def c1h(K:ae)(ta:TA):TI:=λY H R=>ta Y H λvs H1=>∃a xs,vs=[.ref a]/\SqL K H1 a xs/\R (Ite K a) H1
open PyProof.Rows in
def b4M(hg:Gl X "enumerate")(hm:X.mg "enumerate"=p4)(ha:PA X [a] ta)(hs:ao [a] X.env=[(xn,cG a X.env)]:=by rfl):PI X (.Tuple elts kk iP) (.Call (.Name "enumerate" p) [a] [] pos) (c1h X.K ta):=by
 intro pins s Y H R I h;refine Call_ (a0g I hg hm PyProof.Rows.Boot.«enumerate» (fC (L2.thn (ha pos pins s Y H _ I h) λus s1 ⟨vs,H1,I1,r1,q1⟩=>?_) hs rfl));obtain⟨l,xs,e,hq,q⟩:=q1;subst e;cases r1 with
 |cons r rr=>
  cases rr
  cases (show _=be l from r)
  obtain⟨cQ,rv,pl,hz⟩:=I1.list hq;refine call_enumerate_list pl.isList λh' he hit hsz hk=>?_
  refine wpAny_pyIter_enum he ?_;refine⟨s1.heap.objs.size+1,[s1.heap.objs.size+1,s1.heap.objs.size],_,_,H1,rfl,I1.kept (t':=s1.toks) hk,b0g l _ _ (Nat.succ_ne_self _),⟨⟨_,he⟩,hit⟩,λb hb=>?_,q⟩;have nU:s1.heap.objs.size<=b:=by
   rcases aF.mp hb with z|z
   ·rw[z];exact jB _
   ·rw[ak.mp z];exact ay _
  exact I1.fpOk nU (I1.hok.fresh nU)
noncomputable def b9Q(X:Cx)(M:List Md)(tg iter:Expr)(f:EvE):Prop:=
 ∃wi,PI X tg iter wi/\∀(U:List D) (Y:L2.St) (H P:Hp) (F:List au) (ds:List D) (R:It->Hp->Prop),StE X.K M U Y H P F->f U=cz (.list ds)->
  (∀a xs H1,Same H H1->(∀H2,Same (cut H1 F) H2->SqL X.K H2 a xs)->DenAll X.K (cut H1 F) xs ds->R (Ite X.K a) H1)->wi Y H R
def c1i(hm:X.mg "enumerate"=p4)(h:PX X M a fa ca)(hc:frozen ca:=by trivial)(hg:Gl X "enumerate":=by rfl)(he:ao [a] X.env=[(xn,cG a X.env)]:=by rfl)(nK:ao [a] X.env=(xn,cG a X.env)::ao [] X.env:=by rfl) :
  b9Q X M (.Tuple elts kk iP) (.Call (.Name "enumerate" p) [a] [] pos) fa:=by
 obtain⟨t,p,q⟩:=h.out;refine⟨_,b4M hg hm (k9 p o7 nK) he,λU Y H P F ds R S hf k=>?_⟩;refine q U Y H P F _ _ S hf λv H1 e1 r1=>?_
 obtain⟨aa,xs,rfl,k1,k2⟩:=(D5 hc r1).list_inv;exact⟨aa,xs,rfl,(V6 k1 i4).l,k _ xs H1 e1 (λH2 e2=>(V6 k1 e2).l) k2⟩
def b7N(h:iI f U=cz ps):f U=cz ps:=by
 obtain⟨ds,h1,g1⟩:=bnd h;by_cases c:e7 ds=rp
 ·have:(if e7 ds=rp then cz ds else p4)=cz ps:=g1;rw[aC c]at this;rw[h1,this]
 ·have:(if e7 ds=rp then cz ds else p4)=cz ps:=g1;rw[aI c]at this;cases this
def b4N{set:List D->D->Option (List D)}{m:D->Prop}(hc:X.calm=rp)(hp:kZ (aT X.prog X.w) X.A X.env X.xe)(hi:b9Q X M tg iter fa)(hg:PG X tg gt)(hs:b1W X.K M MB gt set m)(hm:∀U ds,fi U=cz ds->∀d∈ds,m d)(xf:∀{U ps},fi U=cz ps->iEn fa U=cz ps)(hb:PSsX X u M MB body g M)
  (hf:∀x,dF iter X.env x=pure x:=by intro _;rfl):PSX X u ML M (.For tg iter body [] pos) (F8 fi set g) M:=by
 obtain⟨wi,pi,qi⟩:=hi;obtain⟨tb,pb,qb⟩:=hb.out;refine .mk ⟨_,a2J hp hc pi hg pb hf,λD U Y H P F o S uY k=>?_⟩;obtain⟨ps,h1,g1⟩:=bnd uY;obtain⟨d0,h2,g2⟩:=bnd (xf h1);obtain⟨ds,h3,g3⟩:=bnd g2;cases J9 h3
 have wN:N5 ds 0=ps:=aK g3;refine qi U Y H P F ds _ S.toE h2 λa xs H1 e1 uL hx=>?_
 have S1:=S.grow e1;have qK:=hx.length;have gh:ps.length=ds.length:=by rw[<-wN,a3b]
 refine⟨λi n Y' H'=>n=xs.length-i/\i<=xs.length/\∃U' F',StR X.K M U' Y' H' (cut H1 F) F'/\Q5 set g (ps.drop i) U'=cz o,⟨xs.length,by simp,cj _,U,F,⟨S1.all,S1.lst,Same.refl _⟩,g1⟩,?_⟩;rintro i n Y' H' ⟨rfl,hi,U',F',S',hfl⟩;have lN:Same (cut H1 F) (cut H' F'):=S'.prot;have q:=uL H' (lN.trans i4);by_cases gX:i<xs.length
 ·refine .inr ⟨⟨xs,xs[i],q,ai gX⟩,λY2 H2=>∃U2 F2,StR X.K M U2 Y2 H2 (cut H1 F) F2/\Q5 set g (ps.drop (i+1)) U2=cz o,λY2 H2 ⟨U2,F2,S2,h2⟩=>⟨xs.length-(i+1),by lia,rfl,gX,U2,F2,S2,h2⟩,λx H2 hy=>?_⟩;obtain⟨T,y,hT,rfl,rfl,zv⟩:=hy;have pA:=zv xs q;have mX:i<ps.length:=by lia
  have mH:ps.drop i=ps[i]::ps.drop (i+1):=cB mX;rw[mH]at hfl;obtain⟨U1,uK,g4⟩:=bnd (show (set U' ps[i]).bind _=cz o from hfl);obtain⟨o1,hg1,g5⟩:=bnd g4;obtain⟨d',ro,sL⟩:=(hx.up lN).getV pA;have qu:ps[i]=.tuple [.int (i:Nat),d']:=by
   have:=a3c ds 0 i d' ro;rw[wN,ai mX,Nat.zero_add]at this;exact aK this
  have oF:Same H' (upd H' T (.tup [.int i,y])):=j6 hT _;have S2:=S'.grow oF;have Az:T∉F':=λz=>by
   obtain⟨ys,e⟩:=S'.lst T z;rw[hT]at e;cases e
  have rq:Den X.K (cut (upd H' T (.tup [.int i,y])) F') (.ref T) (.tuple [.int (i:Nat),d']):=by
   have nT:Same (cut H' F') (cut (upd H' T (.tup [.int i,y])) F'):=B7 oF;have hd2:=sL.up nT;have kC:cut (upd H' T (.tup [.int i,y])) F' T=cz (.tup [.int i,y]):=j5 Az g9;simp only[Den];exact⟨T,[.int i,y],rfl,SqT.of kC,denAll_cons den_int (denAll_cons hd2 denAll_nil)⟩
  rw[qu]at uK;refine hs U' Y' _ (cut H1 F) F' (.ref T) _ U1 _ S2 rq (hm U ps h1 _ (by rw[<-qu];exact dt mX)) uK λY3 F3 S3=>qb _ U1 Y3 _ (cut H1 F) F3 o1 S3 hg1 ?_
  cases o1 with
  |nx U2=>exact λY4 H4 F4 S4=>⟨U2,F4,S4,g5⟩
  |ct U2=>exact λY4 H4 F4 S4=>⟨U2,F4,S4,g5⟩
  |bk U2=>
   have:o=.nx U2:=(aK g5).symm;subst this;exact λY4 H4 F4 S4=>k Y4 H4 F4 ⟨S4.all,S4.lst,S1.prot.trans S4.prot⟩
  |rt d=>
   have:o=.rt d:=(aK g5).symm;subst this;refine λv H4 fp o nd fr e=>k v H4 fp o nd (λa ha=>?_) (S1.prot.trans e)
   exact S1.prot.free (fr a ha)
 ·have e:i=xs.length:=by lia
  subst e;rw[qK,<-gh,jr]at hfl;have:o=.nx U':=(aK hfl).symm;subst this;exact .inl ⟨⟨xs,q,ay _⟩,k Y' H' F' ⟨S'.all,S'.lst,S1.prot.trans S'.prot⟩⟩
end
section
variable {X:Cx}{M:List Md}{a b:Expr}{fa fb:EvE}{ca cb:Cat}{pos p:fQ}
def b2j:D->D->Option D
 |.tuple ds,.tuple es=>if (!ds.isEmpty&&decide (ds.length+es.length<=1000000))=rp then V9 (.tuple (ds++es)) else p4
 |_,_=>p4
def a7Z(h:b2j x y=cz d):∃ds es,x=.tuple ds/\y=.tuple es/\ds≠[]/\ds.length+es.length<=1000000/\d=.tuple (ds++es)/\imm d=rp:=by
 cases x with
 |tuple ds=>
  cases y with
  |tuple es=>
   have h':(if (!ds.isEmpty&&decide (ds.length+es.length<=1000000))=rp then V9 (.tuple (ds++es)) else p4)=cz d:=h;by_cases c:(!ds.isEmpty&&decide (ds.length+es.length<=1000000))=rp
   ·rw[aC c]at h';obtain⟨e1,e2⟩:=Q3 h';rw[ar]at c;exact⟨ds,es,rfl,rfl,λz=>by rw[z]at c;simp at c,aR c.2,e1,by rw[e1];exact e2⟩
   ·rw[aI c]at h';cases h'
  |_=>cases h
 |_=>cases h
end
def insI(n:Int):List Int->List Int
 |[]=>[n]
 |m::ms=>if n<=m then n::m::ms else m::insI n ms
def srt:List Int->List Int
 |[]=>[]
 |n::ns=>insI n (srt ns)
theorem insI_perm(n:Int):∀ms,(insI n ms).Perm (n::ms)
 |[]=>gT _
 |m::ms=>by
  unfold insI;by_cases c:n<=m
  ·rw[aC c]
  ·rw[aI c];exact ((insI_perm n ms).cons m).trans (rP n m ms)
theorem N6:∀ns,(srt ns).Perm ns
 |[]=>gT _
 |n::ns=>(insI_perm n (srt ns)).trans ((N6 ns).cons n)
theorem a1U(n:Int):∀ms:List Int,ms.Pairwise (·<=·)->(insI n ms).Pairwise (·<=·)
 |[],_=>eZ ..
 |m::ms,h=>by
  unfold insI;obtain⟨h1,h2⟩:=fN.mp h;by_cases c:n<=m
  ·rw[aC c];refine fN.mpr ⟨λx hx=>?_,h⟩;rcases aF.mp hx with z|z
   ·rw[z];exact c
   ·have:=h1 x z;lia
  ·rw[aI c];refine fN.mpr ⟨λx hx=>?_,a1U n ms h2⟩;rcases aF.mp ((insI_perm n ms).mem_iff.mp hx) with z|z
   ·lia
   ·exact h1 x z
theorem U3:∀ns:List Int,(srt ns).Pairwise (·<=·)
 |[]=>kL
 |n::ns=>a1U n _ (U3 ns)
def b2k{a b:List Int}(hp:a.Perm b)(ha:a.Pairwise (·<=·)):a=srt b:=
 s_ (λx y _ _ h1 h2=>Int.le_antisymm h1 h2) ha (U3 b) (hp.trans (N6 b).symm)
theorem vals_ints:∀{vs:List aj} {ns:List Int},mN vs ns->Vals (ns.map V.int) vs
 |_,_,.nil=>.nil
 |_,_,.cons n t r=>.cons ⟨t,rfl⟩ (vals_ints r)
theorem a1u:∀{ns:List Int} {vs:List aj},Vals (ns.map V.int) vs->mN vs ns
 |[],vs,h=>by
  have h':Vals [] vs:=h;cases h'
  exact .nil
 |n::ns,vs,h=>by
  have h':Vals (V.int n::ns.map V.int) vs:=h;cases h' with
  |cons r rr=>
   obtain⟨t,rfl⟩:=r;exact .cons n t (a1u rr)
theorem b7O:∀ns:List Int,e7 (ns.map aJ)=rp
 |[]=>by simp only[cV,e7]
 |n::ns=>by simp only[aA,e7,imm,b7O ns,gg]
section
variable {X:Cx}{M:List Md}{a:Expr}{fa:EvE}{ca:Cat}{pos p:fQ}
open PyProof.Rows in
def a5G:CallR X (.builtin "sorted") (λxs H Q=>∃(p:au) (ns:List Int),xs=[.ref p]/\SqX X.K H p (ns.map V.int)/\ns.length<64/\∀z,H z=p4->Q (.ref z) (upd H z (.lst ((srt ns).map V.int)))):=by
 intro pins s Y H xs us Q I rv h;obtain⟨p,ns,rfl,hp,yD,q⟩:=h;obtain⟨u,rfl,rx⟩:=vals1 rv;cases (show u=be p from rx)
 obtain⟨_,cQ,n,uz,ho⟩:=hp.ok I;have hl:s.heap.IsList p cQ.toArray:=⟨_,ho,rfl,n,rfl⟩;have hlen:cQ.length=ns.length:=by have:=uz.length;rw[ag]at this;exact this.symm
 refine sorted_ints hl (a1u uz) (by lia) λout DS a1 a2 a3=>?_
 have e:DS=srt ns:=b2k a2 a3;subst e;obtain⟨ee,kC⟩:=sortedAll_at s.heap cQ out;have hn:H (s.heap.objs.size+1)=p4:=I.hok.fresh (jB _);have ot:((srt ns).map V.int).length<=aV:=by
  rw[ag,(N6 ns).length_eq,cJ];lia
 refine⟨.ref (s.heap.objs.size+1),_,I.laid (a:=s.heap.objs.size+1) (o:=.lst ((srt ns).map V.int)) (t':=s.toks) (λb u hb=>sortedAll_old hb) (jB _) ⟨ot,out.toList,ee,vals_ints a1,?_⟩,rfl,q _ hn⟩;rw[jE];exact kC
noncomputable def a4z(a:EvE):EvE:=λU=>(a U).bind λd=>(asL d).bind λds=>(intsOf ds).bind λns=>if ns.length<64 then cz (.list ((srt ns).map .int)) else p4
def b0h(hm:X.mg "sorted"=p4)(ha:PX X M a fa ca)(hg:Gl X "sorted":=by rfl)(he:ao [a] X.env=(xn,cG a X.env)::ao [] X.env:=by rfl)(gh:(cC pos (ao [] X.env)).any (·.1)=xn:=by rfl) :
  PX X M (.Call (.Name "sorted" p) [a] [] pos) (a4z fa) (.new (.l .i)):=by
 obtain⟨ta,pa,qa⟩:=ha.out;refine .mk ⟨_,Q0 a5G hg hm PyProof.Rows.Boot.«sorted» (k9 pa o7 he) (by decide) (by decide) he gh,λU Y H P F d Q S hf q=>?_⟩;obtain⟨x,h1,g1⟩:=bnd hf;obtain⟨ds,h2,g2⟩:=bnd g1;obtain⟨ns,h3,g3⟩:=bnd g2;cases J9 h2
 cases E8 h3
 by_cases c:ns.length<64
 ·rw[aC c]at g3;cases g3
  refine qa U Y H P F _ _ S h1 λv H1 e1 r1=>?_
  obtain⟨pp,xs,rfl,k1,k2⟩:=r1.den.list_inv;have uD:∀{ns:List Int} {xs:List V},DenAll X.K H1 xs (ns.map .int)->xs=ns.map V.int:=by
   intro ns
   induction ns with
   |nil=>intro xs h;exact h.nil_inv
   |cons n ns ih=>
    intro xs h;obtain⟨v,r,rfl,h1,h2⟩:=h.cons_inv;rw[h1.int_inv,ih h2];rfl
  cases uD k2
  refine⟨pp,ns,rfl,k1,c,λz hz=>q _ _ (e1.trans (j6 hz _)) ?_⟩;refine J1 ?_ (b7O _) e1 hz (S.lst' e1);have:∀ms:List Int,DenAll X.K H1 (ms.map V.int) (ms.map aJ):=by
   intro ms
   induction ms with
   |nil=>exact denAll_nil
   |cons m ms ih=>exact denAll_cons den_int ih
  exact this _
 ·rw[aI c]at g3;cases g3
end
def dis(ns:List Int):List Int:=me (λi=>ns.getD i 0) ns.length
end VS
namespace PySem
open Sem (wp)
set_option maxRecDepth 100000
def Heap.IsValuesView.at{h g1:cf}{v d}(x:h.IsValuesView v d)(e:∀o,h.get? v=cz o->g1.get? v=cz o):g1.IsValuesView v d:=let⟨o,ho,r⟩:=x;⟨o,e _ ho,r⟩
theorem Heap.IsValuesView.push{h:cf}{v d}(x:h.IsValuesView v d)(o:gE):(h.push o).IsValuesView v d:=x.at λ_ e=>af o e
section
variable {prog:bA}{w:bX}{K:Type}[DecidableEq K]{knd:KeyKind prog w K}{A:bL}{E:aj->aq->Prop}{s:aq}
def b0i(hT:s.TypeIs (.ref d) "dict_values")(h:Q xn s):aG (aT prog w) A (vS (.ref d)) Q E s:=by
 unfold vS;refine ab (eu hT F.slot_dict_values_len.lookup ?_);generalize CO:("dict_values.__len__":String)=Ea
 wp_delta
 rw[show splitId Ea=cz ("dict_values","__len__") from by subst CO;decide +kernel];subst CO;refine ab (ix (T:="dict_values") (b:=rp) hT (by rw[isSubtype_type];kernel_rfl) ?_);refine kA (λqO=>absurd qO (by decide)) (λ_=>?_);refine kA (λ_=>?_) (λqO=>absurd (by decide +kernel) qO);refine ab (jw hT ?_);exact ah h
def b2l(hh:A.handled=p4)(hd:(d==df)=xn)(hm:s.heap.DictAt knd d kvs ep)(hv:s.heap.IsValuesView v d)
  (hsz:kvs.length<=aV) (L0:au) (res:aj) (c₀:Nat) (zl:s.heap.get? L0=cz {cls:=.type "list",data:=.seq #[] c₀})
  (kR:∀g1 tq ac cq,(∀b o,b≠L0->s.heap.get? b=cz o->g1.get? b=cz o)->g1.get? L0=cz {cls:=.type "list",dict:=p4,data:=.seq ac cq,slots:=#[]}->
   rQ (λi v=>∃k,kvs[i]?=cz (k,v)) ac kvs.length->R (.ok (.ret res)) {s with heap:=g1,toks:=tq}) :
  aG (aT prog w) A.in1 (eE (.ref L0) (.ref v) res)
   (λAL sq=>match AL with|.done f=>R (.ok f) sq|.again cq=>cq.quiet=rp/\iZ (aT prog w) A cq R sq) (λe sq=>R (.error e) sq) s:=by
 have yx:L0≠d:=λe=>by
  obtain⟨o,es,ho,hx,mY,_⟩:=hm;rw[<-e,zl]at ho;cases ho
  cases mY
 have AA:L0≠v:=λe=>by
  obtain⟨o,ho,hc,mY⟩:=hv;rw[<-e,zl]at ho;cases ho
  cases mY
 have Cw:L0≠s.heap.objs.size:=bK (aM zl);have An:d≠s.heap.objs.size:=bK hm.lt_size;have FP:L0∉[s.heap.objs.size,d]:=λinn=>by
  rcases aF.mp inn with e|e
  ·exact Cw e
  ·exact yx (ak.mp e)
 have W:=(Walks.dictValues (prog:=prog) (w:=w) (knd:=knd) (A:=A.in1) hh s.heap.objs.size d An kvs ep).toS;have key:∀(h:cf) (c₁ tq:Nat),h.IsValIter s.heap.objs.size d 0 kvs.length ep->h.DictAt knd d kvs ep->(∀b o,b≠L0->s.heap.get? b=cz o->h.get? b=cz o)->
   h.get? L0=cz {cls:=.type "list",data:=.seq #[] c₁}->iZ (aT prog w) A (.builtin "list.extend.loop" ⟨[.ref L0,.ref s.heap.objs.size,res],[]⟩) R {s with heap:=h,toks:=tq}:=by
  intro h c₁ tq hit sM hk vU;refine codeAny_extend_loopS W hsz L0 FP res kvs.length 0 _ #[] c₁ rfl (cj _) ⟨hit,sM⟩ vU (rQ.nil _) λsq ac cq B_ vT qN=>?_
  rw[Moved.eq_with B_];refine kR sq.heap sq.toks ac cq (λb o nb e=>B_.heap b o (λinn=>?_) (hk b o nb e)) vT qN;rcases aF.mp inn with e'|inn
  ·exact nb e'
  ·exact absurd (aM e) (by rw[ak.mp inn];exact dQ _)
 unfold eE;refine ab (jw (T:="dict_values") hv.typeIs ?_);have h1:A_ (.ref L0) (.ref v)=xn:=by simp[A_,AA]
 have h2:(ie "dict_values" == ie "list")=xn:=by decide
 have h3:(ie "dict_values" == ie "tuple")=xn:=by decide
 simp only[h1,h2,h3,Bool.or_false,bF,dw];refine ab (wpAny_pyIter_values hv hm ?_);refine ab (cx (b0i ((hv.push _).typeIs) ?_));have vU:=af {cls:=.type "dict_valueiterator",data:=.fields #[.ref d,.int 0 0,.int kvs.length 0,.int ep 0]} zl;have rh:(s.heap.push {cls:=.type "dict_valueiterator",data:=.fields #[.ref d,.int 0 0,.int kvs.length 0,.int ep 0]}).IsValIter s.heap.objs.size d 0 kvs.length ep:=⟨_,aL _ rfl,rfl,rfl⟩;refine kA (λ_=>?_) (λ_=>ah ⟨gx F.plain_extend_loop _,key _ c₀ _ rh (hm.push _) (λb o _ e=>af _ e) vU⟩);refine ab (gw ?_);refine ab ?_;show aG _ _ (updateSeq L0 (·.push .none) >>= λ_=>updateSeq L0 (·.pop)) _ _ _;refine ab (uv vU rfl ?_);have xU:=c_ (fY (·.push bb)) vU rfl;refine uv (hz:=by seq_fits) xU rfl ?_;have Di:=c_ (fY (·.pop)) xU rfl;have rest:∀b o,b≠L0->(s.heap.push {cls:=.type "dict_valueiterator",data:=.fields #[.ref d,.int 0 0,.int kvs.length 0,.int ep 0]}).get? b=cz o->(((s.heap.push {cls:=.type "dict_valueiterator",data:=.fields #[.ref d,.int 0 0,.int kvs.length 0,.int ep 0]}).update L0 (fY (·.push bb))).update L0 (fY (·.pop))).get? b=cz o:=λb o nb e=>(gM _ _ (dN nb)).trans ((gM _ _ (dN nb)).trans e)
 exact ah ⟨gx F.plain_extend_loop _,key _ _ _ (rh.at λo e=>rest _ o (dN Cw) e) ((hm.push _).at' λo e=>rest _ o (dN yx) e) (λb o nb e=>rest b o nb (af _ e)) Di⟩
def b0j(hh:A.handled=p4)(hd:(d==df)=xn)(hm:s.heap.DictAt knd d kvs ep)(hv:s.heap.IsValuesView v d)
  (hsz:kvs.length<=aV) (L0:au) (zl:s.heap.get? L0=cz {cls:=.type "list",data:=.seq #[]})
  (kR:∀g1 tq ac cq,(∀b o,b≠L0->s.heap.get? b=cz o->g1.get? b=cz o)->g1.get? L0=cz {cls:=.type "list",dict:=p4,data:=.seq ac cq,slots:=#[]}->
   rQ (λi v=>∃k,kvs[i]?=cz (k,v)) ac kvs.length->R (.ok (.ret .none)) {s with heap:=g1,toks:=tq}) :
  aG (aT prog w) A.in1 (Builtin.«list.__init__» ⟨[.ref L0,.ref v],[]⟩)
   (λAL sq=>match AL with|.done f=>R (.ok f) sq|.again cq=>cq.quiet=rp/\iZ (aT prog w) A cq R sq) (λe sq=>R (.error e) sq) s:=by
 have yx:L0≠d:=λe=>by
  obtain⟨o,es,ho,hx,mY,_⟩:=hm;rw[<-e,zl]at ho;cases ho
  cases mY
 have AA:L0≠v:=λe=>by
  obtain⟨o,ho,hc,mY⟩:=hv;rw[<-e,zl]at ho;cases ho
  cases mY
 show aG _ _ (do let old <-Hb (.ref L0);Builtin.List.listUpdate (.ref L0) (λ_=>#[]);letGo old.toList.reverse;eE (.ref L0) (.ref v) .none) _ _ s;refine ab ?_;unfold Hb;refine ab (dZ zl rfl (ah ?_));show aG _ _ (updateSeq L0 (λ_=>#[]) >>= λ_=>letGo (#[]:Array aj).toList.reverse >>= λ_=>eE (.ref L0) (.ref v) .none) _ _ s;refine ab (uv zl rfl ?_);have xU:=c_ (fY (λ_=>(#[]:Array aj))) zl rfl;have rest:∀b o,b≠L0->s.heap.get? b=cz o->(s.heap.update L0 (fY (λ_=>(#[]:Array aj)))).get? b=cz o:=
  λb o nb e=>(gM _ _ (dN nb)).trans e
 refine ab (nZ ?_);refine b2l hh hd (hm.at' λo e=>rest d o (dN yx) e) (hv.at λo e=>rest v o (dN AA) e) hsz L0 .none _ xU λg1 tq ac cq hk vT qN=>?_
 exact kR g1 tq ac cq (λb o nb e=>hk b o nb (rest b o nb e)) vT qN
def a3d(hh:A.handled=p4)(hd:(d==df)=xn)(hm:s.heap.DictAt knd d kvs ep)(hv:s.heap.IsValuesView v d)
  (hsz:kvs.length<=aV)
  (kQ:∀g1 tq ac cq,(∀b o,s.heap.get? b=cz o->g1.get? b=cz o)->
   g1.get? s.heap.objs.size=cz {cls:=.type "list",dict:=p4,data:=.seq ac cq,slots:=#[]}->rQ (λi v=>∃k,kvs[i]?=cz (k,v)) ac kvs.length->Q (.ref s.heap.objs.size) {s with heap:=g1,toks:=tq}) :
  aG (aT prog w) A (call (.type "list") [.ref v]) Q E s:=by
 refine oH (Q₁:=λobj s₁=>obj=.ref s.heap.objs.size/\s₁={s with heap:=s.heap.push {cls:=.type "list",data:=.seq #[]}}) F.called_list (F.typeCall_list_1 _) F.entry_list_init
  (code_list_new _ ⟨rfl,rfl⟩) λobj s₁ h₁=>?_
 obtain⟨rfl,rfl⟩:=h₁;have zl:(s.heap.push {cls:=.type "list",data:=.seq #[]}).get? s.heap.objs.size=cz {cls:=.type "list",data:=.seq #[]}:=aL _ rfl;refine⟨⟨_,zl,rfl⟩,F.args_list_init_2 _ _,b0j (A:=A.in1) hh hd (hm.push _) (hv.push _) hsz _ zl λg1 tq ac cq hk vT qN=>?_⟩;exact⟨rfl,kQ g1 tq ac cq (λb o e=>hk b o (bK (aM e)) (af _ e)) vT qN⟩
end
end PySem
namespace VS
open PySem PySem.Spec L2
theorem U4:∀{xs:List V} {us:List aj},xs.length=us.length->(∀(i:Nat) (x:V) (u:aj),xs[i]?=cz x->us[i]?=cz u->RelV x u)->Vals xs us
 |[],[],_,_=>.nil
 |[],_::_,h,_=>by simp at h
 |_::_,[],h,_=>by simp at h
 |x::xs,u::us,hl,h=>.cons (h 0 x u rfl rfl) (U4 (by simpa using hl) λi x u h1 h2=>h (i+1) x u (by simpa using h1) (by simpa using h2))
def z8(es:List (D×V×V)):Prop:=∀e∈es,∃n,e.1=.int n/\e.2.1=.int n
def EKv(e:D×V×V)(kv:Int×aj):Prop:=e.1=.int kv.1/\e.2.1=.int kv.1/\RelV e.2.2 kv.2
def b0k(h:fB M8 es l):z8 es->∃kvs:List (Int×aj),Pairs (eU P w) l kvs/\fB EKv es kvs:=by
 induction h with
 |nil=>exact λ_=>⟨[],.nil,.nil⟩
 |@cons e x es l r _ ih=>
  intro hk;obtain⟨kvs,h1,h2⟩:=ih λe he=>hk e (aw _ he)
  obtain⟨n,e1,e2⟩:=hk e av;obtain⟨hh,jU,zB⟩:=r;rw[e2]at jU;obtain⟨t,ht⟩:=(show ∃t,x.key=iy n t from jU);exact⟨(n,x.val)::kvs,.cons (by rw[ht];simp[eU,kl]) rfl h1,.cons ⟨e1,e2,zB⟩ h2⟩
def b2m(h:fB EKv es kvs):es.map (·.1)=(kvs.map (·.1)).map aJ:=by
 induction h with
 |nil=>rfl
 |cons r _ ih=>rw[aA,aA,aA,ih,r.1]
section
variable {X:Cx}{M:List Md}{a o:Expr}{fa:EvE}{ca:Cat}{pos p apos cM:fQ}
def a0k(I:Inv X pins Y H s)(hH:H d=cz (c6 d es))(hk:z8 es) :
  ∃kvs ep,s.heap.DictAt (eU X.prog X.w) d kvs ep/\(d==df)=xn/\es.length<=aV/\fB EKv es kvs:=by
 obtain⟨h0,hl,hn,o,ents,ep,h1,h2,h3,h4⟩:=n9 I hH;obtain⟨kvs,p1,p2⟩:=b0k (P:=X.prog) (w:=X.w) h4 hk;refine⟨kvs,ep,⟨o,ents,h1,h2,h3,λx hx=>?_,p1,?_⟩,h0,hl,p2⟩
 ·obtain⟨j,hj⟩:=bS.mp (et.mpr hx);obtain⟨e,he,hh,jU,_⟩:=a1R h4 hj;obtain⟨n,e1,e2⟩:=hk e (bz he);rw[e2]at jU;obtain⟨t,ht⟩:=(show ∃t,x.key=iy n t from jU);exact⟨n,by rw[ht];simp[eU,kl],by rw[hh,e1];rfl⟩
 ·rw[b2m p2]at hn;exact xR aJ (λa b h e=>h (by rw[e])) hn
def a4A(v d:au):HO:=.ext λh=>h.IsValuesView v d
def b0l{h':cf}(h:h'.IsValuesView v d):ObjOk P w H' h' v (a4A v d):=
 ⟨h,let⟨o,ho,_⟩:=h;⟨o,ho⟩,λx1 x2 ⟨o,ho,r⟩ hk=>⟨o,hk _ ho,r⟩⟩
def b0m(ho:PE X o to)(fx:dC o "values" X.env (cG o X.env)=cG o X.env:=by rfl)(fw:(apos.endLine==cM.line)=rp:=by rfl) :
  PE X (.Call (.Attribute o "values" apos) [] [] cM) (λY H Q=>to Y H λx H1=>∃p es,x=.ref p/\H1 p=cz (c6 p es)/\z8 es/\∀l,H1 l=p4->Q (.ref l) (upd H1 l (a4A l p))):=by
 intro pins s Y H Q I h;refine je fx fw (L2.thn (ho pins s Y H _ I h) λv s1 ⟨x,H1,I1,r1,p,es,ex,hH,hk,q1⟩=>?_);subst ex;obtain rfl:v=be p:=r1;obtain⟨kvs,ep,kC,h0,hl,hp⟩:=a0k I1 hH hk;refine⟨"dict","dict.values",iK,ig,sU,j7 I1 hH,L3 I1 hH,fR rfl (jO ?_)⟩;refine GJ ig (j7 I1 hH) se (rL _) (meets_dict_values (eU X.prog X.w) p h0) ⟨⟨kvs,kC.dictOf⟩,?_⟩;exact⟨.ref s1.heap.objs.size,_,I1.laid (a:=s1.heap.objs.size) (o:=a4A s1.heap.objs.size p) (t':=s1.toks) (λ_ _ q=>af _ q) (ay _) (b0l ⟨_,aL _ rfl,rfl,rfl⟩),rfl,q1 _ (I1.hok.fresh (ay _))⟩
def a8a(hc:X.calm=rp):CallR X (.type "list") (λxs H Q=>∃v p es,xs=[.ref v]/\H v=cz (a4A v p)/\H p=cz (c6 p es)/\z8 es/\∀l,H l=p4->Q (.ref l) (upd H l (.lst (es.map (·.2.2))))):=by
 intro pins s Y H xs us Q I rv h;obtain⟨v,p,es,rfl,hV,hH,hk,q⟩:=h;obtain⟨u,rfl,rx⟩:=vals1 rv;cases (show u=be v from rx)
 obtain⟨kvs,ep,kC,h0,hl,hp⟩:=a0k I hH hk;have El:s.heap.IsValuesView v p:=(show ObjOk X.prog X.w H s.heap v (a4A v p) from I.hok v _ hV).1;have hlen:=cS hp;refine a3d (knd:=eU X.prog X.w) (I.ok.hd hc) h0 kC El (by lia) λg1 tq ac cq keep ho qN=>?_
 refine⟨.ref s.heap.objs.size,_,I.laid (t':=tq) keep (ay _) (show ObjOk X.prog X.w _ g1 _ (.lst (es.map (·.2.2))) from⟨by rw[ag];exact hl,ac.toList,cq,?_,by rw[jE];exact ho⟩),rfl,q _ (I.hok.fresh (ay _))⟩;refine U4 (by rw[ag];have z1:=qN.1;have z2:ac.toList.length=ac.size:=aD;lia) λi x u h1 h2=>?_
 rw[bE]at h2;obtain⟨k,h3⟩:=qN.2 i u h2;rw[aZ]at h1;obtain⟨e,he,rfl⟩:=eA.mp h1;obtain⟨kv,g3,g4⟩:=C0 hp he;rw[h3]at g3;cases g3
 exact g4.2.2
def intKeyed(h:DenKV K H es kvs)(hk:kvs.all (λp=>m9 xn p.1)=rp):z8 es:=λe he=>by
 have h1:e.1∈kvs.map (·.1):=by rw[<-h.keys];exact bO he
 obtain⟨kv,h2,h3⟩:=bj.mp h1;obtain⟨n,hn⟩:=(u9 (bD.mp hk kv h2)).2.2.2 rfl;have hd:=h.kden e he;rw[<-h3,hn]at hd;exact⟨n,by rw[<-h3,hn],hd.int_inv⟩
noncomputable def a5H(a:EvE):EvE:=λU=>(a U).bind λd=>match d with
 |.dict kvs=>if kvs.all (λp=>m9 xn p.1)&&e7 (kvs.map (·.2)) then cz (.list (kvs.map (·.2))) else p4
 |_=>p4
def b2n(hc:X.calm=rp)(hm:X.mg "list"=p4)(ha:PX X M a fa ca)(hg:Gl X "list":=by rfl)(fx:dC a "values" X.env (cG a X.env)=cG a X.env:=by rfl)(fw:(apos.endLine==cM.line)=rp:=by rfl)
  (he:ao [.Call (.Attribute a "values" apos) [] [] cM] X.env=(xn,cG (.Call (.Attribute a "values" apos) [] [] cM) X.env)::ao [] X.env:=by rfl) (gh:(cC pos (ao [] X.env)).any (·.1)=xn:=by rfl) :
  PX X M (.Call (.Name "list" p) [.Call (.Attribute a "values" apos) [] [] cM] [] pos) (a5H fa) (.new (.l .i)):=by
 obtain⟨ta,pa,qa⟩:=ha.out;refine .mk ⟨_,C1 (a8a hc) hg hm PyProof.Rows.Boot.«list» (k9 (b0m pa fx fw) o7 he) (by decide) (by decide) he gh,λU Y H P F d Q S hf q=>?_⟩;obtain⟨x,h1,g1⟩:=bnd hf;cases x with
 |dict kvs=>
  have g2:(if kvs.all (λp=>m9 xn p.1)&&e7 (kvs.map (·.2)) then cz (dX (kvs.map (·.2))) else p4)=cz d:=g1;by_cases c:(kvs.all (λp=>m9 xn p.1)&&e7 (kvs.map (·.2)))=rp
  ·rw[aC c]at g2;cases g2
   rw[ar]at c;refine qa U Y H P F _ _ S h1 λv H1 e1 r1=>?_
   obtain⟨pp,es,rfl,k1,k2⟩:=r1.den.dict_inv;have hk:=intKeyed k2 c.1;refine⟨pp,es,rfl,k1,hk,λy hy=>?_⟩;have e2:=j6 hy (a4A y pp);refine⟨y,pp,es,rfl,g9,e2 _ _ k1,hk,λz hz=>q _ _ ((e1.trans e2).trans (j6 hz _)) ?_⟩;exact J1 (k2.vals.up e2) c.2 (e1.trans e2) hz (S.lst' (e1.trans e2))
  ·rw[aI c]at g2;cases g2
 |_=>cases g1
end
section
variable {X:Cx}{M:List Md}{e0:Expr}{es:List Expr}{f:EvA}{x:bI}{p pos:fQ}
def b2o(W:Has X.prog X.w X.K X.mg X.base x k ps (spD X.K n m .f))(hr:Room k X.A)(h:PAX X M (e0::es) f)(hl:(e0::es).length=n:=by rfl)(hfl:∀U ds,f U=cz ds->ds.length=(e0::es).length)
  (hg:Gl X x:=by rfl) (lX:(x==("__debug__":bI))=xn:=by decide) (he:ao (e0::es) X.env=(xn,cG e0 X.env)::ao es X.env:=by rfl) (gh:(cC pos (ao es X.env)).any (·.1)=xn:=by rfl) :
  PX X M (.Call (.Name x p) (e0::es) [] pos) (eCl m f) .tmp:=by
 obtain⟨t,pa,qa⟩:=h;refine .mk ⟨_,a5o W hr pa hg lX he gh,λU Y H P F d Q S hf q=>?_⟩;obtain⟨ds,h1,hf⟩:=bnd hf;refine qa U Y H P F ds _ S h1 λvs H1 e1 r1=>?_
 show spD X.K n m .f (vs++[]) H1 Q E0;rw[bM];refine⟨ds,d,by rw[r1.length,hfl U ds h1,hl],r1,hf,λv H' fp e o nd fr=>q v H' (e1.trans e) ?_⟩;simp only[Own]at o;exact o.2.up i4
end
def keysOk(kt:Bool)(kvs:List (D×D)):Bool:=kvs.all λp=>m9 kt p.1
def Z4(neg kt:Bool):D->D->Option D
 |k,.dict kvs=>if m9 kt k&&keysOk kt kvs then cz (.bool (neg !=w6 kvs k)) else p4
 |_,_=>p4
def Z5(kt:Bool):D->D->Option D
 |.dict kvs,k=>if m9 kt k&&keysOk kt kvs then D0 kvs k else p4
 |_,_=>p4
def a1v{kvs:List (D×D)}{es:List (D×V×V)}(h:es.map (·.1)=kvs.map (·.1)):w6 kvs k=s9 es k:=by
 have e1:w6 kvs k=(kvs.map (·.1)).any λx=>aH x k:=by unfold w6;rw[List.any_map];rfl
 have e2:s9 es k=(es.map (·.1)).any λx=>aH x k:=by unfold s9;rw[List.any_map];rfl
 rw[e1,e2,h]
def b6g{X:Cx}(h:DenKV X.K H es kvs)(ho:keysOk kt kvs=rp)(hk:m9 kt k=rp)(hd:Den X.K H kv k):KeysAt X H kt es k kv:=by
 refine⟨λe he=>⟨?_,h.kden e he⟩,u9 hk,hd⟩;have hm:e.1∈kvs.map (·.1):=by rw[<-h.keys];exact bO he
 obtain⟨p,hp,e1⟩:=bj.mp hm;rw[<-e1];exact u9 (bD.mp ho p hp)
section
variable {X:Cx}{M:List Md}{a b:Expr}{fa fb:EvE}{ca cb:Cat}{kt:Bool}{pos:fQ}
def a4B(h:Z4 neg kt k d=cz r):∃kvs,d=.dict kvs/\m9 kt k=rp/\keysOk kt kvs=rp/\r=.bool (neg !=w6 kvs k):=by
 cases d with
 |dict kvs=>
  have h':(if m9 kt k&&keysOk kt kvs then cz (dE (neg !=w6 kvs k)) else p4)=cz r:=h;by_cases c:(m9 kt k&&keysOk kt kvs)=rp
  ·rw[aC c]at h';rw[ar]at c;exact⟨kvs,rfl,c.1,c.2,(aK h').symm⟩
  ·rw[aI c]at h';cases h'
 |_=>cases h
def a6z(d1:Den X.K H2 v k)(d2:Den X.K H2 w d)(hr:Z4 neg kt k d=cz r)(q:Q (.bl (match r with|.bool b=>b|_=>xn)) H2):a3Z X neg v w H2 Q:=by
 obtain⟨kvs,rfl,hk,ho,rfl⟩:=a4B hr;obtain⟨p,es,rfl,hH,dk⟩:=d2.dict_inv;refine⟨p,es,kt,k,rfl,hH,b6g dk ho hk d1,?_⟩;rw[<-a1v dk.keys];exact q
def b2p(ho:OpR X (bU op) (a3Z X neg))(ha:PX X M a fa ca)(hb:PX X M b fb cb)(hm:fq op b=xn:=by first|exact a0h _|with_unfolding_all rfl):PX X M (.Compare a [op] [b] pos) (e2 (Z4 neg kt) fa fb) (.new .i):=by
 obtain⟨ta,pa,qa⟩:=ha.out;obtain⟨tb,pb,qb⟩:=hb.out;refine .mk ⟨_,a8M ho pa pb hm,λU Y H P F d Q S hf q=>?_⟩;obtain⟨x,y,h1,h2,h3⟩:=C3 hf;refine qa U Y H P F x _ S h1 λv H1 e1 r1=>qb U Y H1 P F y _ (S.grow e1) h2 λw H2 e2 r2=>a6z (r1.den.up e2) r2.den h3 ?_
 obtain⟨kvs,rfl,_,_,rfl⟩:=a4B h3;exact q _ H2 (e1.trans e2) (G9 (by simp only[imm]) den_bool (S.lst' (e1.trans e2)))
def a5I(ho:OpR X (bU op) (a3Z X neg))(ha:PX X M a fa ca)(hb:PX X M b fb cb)(hm:fq op b=xn:=by first|exact a0h _|with_unfolding_all rfl):PTX X M (.Compare a [op] [b] pos) (tB (e2 (Z4 neg kt) fa fb)):=by
 obtain⟨ta,pa,qa⟩:=ha.out;obtain⟨tb,pb,qb⟩:=hb.out;refine .mk ⟨_,a0v ho pa pb hm,λU Y H P F k Q S hf q=>?_⟩;obtain⟨d,hf,hk⟩:=bnd hf;cases J8 hk
 obtain⟨x,y,h1,h2,h3⟩:=C3 hf;exact qa U Y H P F x _ S h1 λv H1 e1 r1=>qb U Y H1 P F y _ (S.grow e1) h2 λw H2 e2 r2=>a6z (r1.den.up e2) r2.den h3 ⟨k,rfl,q H2 (e1.trans e2)⟩
def b7P{es:List (D×V×V)}(hn:(es.map (·.1)).Nodup)(hk:∀e∈es,aH e.1 k=rp↔e.1=k)(h:DenKV K H es kvs)(he:e∈es)(gu:e.1=k):∃d,D0 kvs k=cz d/\Den K H e.2.2 d:=by
 obtain⟨j,hj⟩:=bS.mp he;have hl:kvs.length=es.length:=by have:=d_ gA h.keys;simpa using this.symm
 have hz:kvs=(es.map (·.1)).zip (kvs.map (·.2)):=by
  rw[h.keys,List.zip_map',List.map_id'' (λp=>rfl)]
 obtain⟨p,hp⟩:∃p,kvs[j]?=cz p:=⟨_,ai (by rw[hl];exact (aN.mp hj).1)⟩;have hd:(kvs.map (·.2))[j]?=cz p.2:=by rw[aZ,hp];rfl
 refine⟨p.2,?_,?_⟩
 ·rw[hz];exact a0J (by rw[ag];exact hl) hk hn hj gu hd
 ·obtain⟨v,z1,z2⟩:=h.vals.get hd;rw[aZ,hj]at z1;cases z1
  exact z2
def b9R(X:Cx)(td ty:TE):TE:=λY H Q=>td Y H λx H1=>ty Y H1 λy H2=>∃a es kt k,x=.ref a/\H2 a=cz (c6 a es)/\KeysAt X H2 kt es k y/\s9 es k=rp/\((es.map (·.1)).Nodup->∀e∈es,e.1=k->Q e.2.2 H2)
def b4O(hu:X.A.units+64<du)(ho:PE X a td)(hi:PE X b ty)(hs:a4x b):PE X (.Subscript a b pos) (b9R X td ty):=by
 intro pins s Y H Q I h;refine b9O sd.lookup hs (L2.thn (ho pins s Y H _ I h) λu s1 ⟨x,H1,I1,rx,q1⟩=>L2.thn (hi pins s1 Y H1 _ I1 q1) λiv s2 ⟨y,H2,I2,ry,p,es,kt,k,ex,hH,K,hh,q2⟩=>?_);subst ex;obtain rfl:u=be p:=rx;have hn:=(n9 I2 hH).2.2.1;exact⟨j7 I2 hH,a2Z (by lia) I2 hH K ry hh λe he gu x s3 I3 r3=>⟨e.2.2,H2,I3,r3,q2 hn e he gu⟩⟩
def b0n(h:Z5 kt d k=cz r):∃kvs,d=.dict kvs/\m9 kt k=rp/\keysOk kt kvs=rp/\D0 kvs k=cz r:=by
 cases d with
 |dict kvs=>
  have h':(if m9 kt k&&keysOk kt kvs then D0 kvs k else p4)=cz r:=h;by_cases c:(m9 kt k&&keysOk kt kvs)=rp
  ·rw[aC c]at h';rw[ar]at c;exact⟨kvs,rfl,c.1,c.2,h'⟩
  ·rw[aI c]at h';cases h'
 |_=>cases h
def a2y(hu:X.A.units+64<du)(ha:PX X M a fa (.new .f))(hb:PX X M b fb cb)(hs:a4x b:=by exact λ_ _=>rfl):PX X M (.Subscript a b pos) (e2 (Z5 kt) fa fb) (.new .f):=by
 obtain⟨ta,pa,qa⟩:=ha.out;obtain⟨tb,pb,qb⟩:=hb.out;refine .mk ⟨_,b4O hu pa pb hs,λU Y H P F d Q S hf q=>?_⟩;obtain⟨x,y,h1,h2,h3⟩:=C3 hf;obtain⟨kvs,rfl,hk,hok,hg⟩:=b0n h3;refine qa U Y H P F _ _ S h1 λv H1 e1 ⟨fp,o,nd,fr⟩=>qb U Y H1 P F y _ (S.grow e1) h2 λw H2 e2 r2=>?_
 simp only[Own]at o;obtain⟨rfl,o⟩:=o;have o2:Den X.K (cut H2 F) v (.dict kvs):=o.up (M9 e2 λa o ha mG=>by simpa using mG);obtain⟨p,es,rfl,hH,dk⟩:=o2.dict_inv;have GF:DenKV X.K H2 es kvs:=DenKV.mono i4 kvs dk;have KK:=b6g GF hok hk r2.den;refine⟨p,es,kt,y,rfl,i4 _ _ hH,KK,by rw[<-a1v dk.keys];exact a0K hg,λhn e he gu=>?_⟩;obtain⟨d',g',dd⟩:=b7P hn (λe he=>KK.eqv he) dk he gu;rw[hg]at g';cases g'
 refine q _ H2 (e1.trans e2) ⟨[],?_,bJ,λa ha=>(nomatch ha)⟩;simp only[Own];exact⟨trivial,dd⟩
end
end VS
namespace VS
open PySem PySem.Spec L2 PyProof.Rows
section
variable {X:Cx}{pins:List (au×gE)}{Y:L2.St}{H:Hp}{s:aq}{A:bL}{E:aj->aq->Prop}{a:au}{es:List (D×V×V)}{kt:Bool}{k:D}{kv v:V}{key val:aj}
def a8b{Q:aj->aq->Prop}(I:Inv X pins Y H s)(h:H a=cz (c6 a es))(hQ:∀t s',Inv X pins Y H s'->Q (.int es.length t) s'):aG (aT X.prog X.w) A (Builtin.«len» ⟨[.ref a],[]⟩) (λfin s'=>∃r,fin=.done (.ret r)/\Q r s') E s:=by
 have hT:=j7 I h;obtain⟨hd,hl,_,o,ents,ep,h1,h2,h3,h4⟩:=n9 I h;have hsz:ents.size=es.length:=by
  have:=cS h4;have e2:ents.toList.length=ents.size:=by simp
  lia
 have qz:(es.length:Int)<2^63:=by
  have:aV<2^62:=by decide
  lia
 unfold Builtin.«len»;refine ab (m:=oneArg "len" _) (ah ?_);refine ab (m:=callSpecial? (.ref a) (dq "__len__")) (cN (name:=dq "__len__") hT i_ (cD i_ hT F.entry_dict_len ?_ (F.args_dict_len_1 _)));show aG _ _ (dictSize a >>= _) _ _ s;unfold dictSize;refine ab (ab (cK h1 h3 (ah ?_)));show aG _ _ (yP a >>= _) _ _ s;refine ab (yS hd ?_);refine uw ?_;rw[oS,hsz];refine ab (cx (ah ?_));refine ab (nZ ?_);show aG _ _ (if ((es.length:Nat):Int)<0 then _ else _) _ _ _;rw[aI (by lia)];show aG _ _ (if ((es.length:Nat):Int)≥2^63 then _ else _) _ _ _;rw[aI (by lia)];exact ab (wpAny_mkInt (ah ⟨_,rfl,hQ _ _ (I.tok _)⟩))
def b0o{Q:Bool->aq->Prop}(I:Inv X pins Y H s)(h:H a=cz (c6 a es))(hQ:∀s',Inv X pins Y H s'->Q (!es.isEmpty) s'):aG (aT X.prog X.w) A (v_ (.ref a)) Q E s:=by
 have hT:=j7 I h;have gN:((es.length:Int)!=0)=!es.isEmpty:=by cases es<;>simp<;>lia
 have key:aG (aT X.prog X.w) A (runValue (.builtin "len" ⟨[.ref a],[]⟩)) (λr s'=>(∃t,r=.int es.length t)/\Q (!es.isEmpty) s') E s:=by
  refine vV (eR entry_len ?_);rw[dm plain_len _];exact de (a8b (Q:=λr s'=>(∃t,r=.int es.length t)/\Q (!es.isEmpty) s') I h λt s' I'=>⟨⟨t,rfl⟩,hQ s' I'⟩)
   (λfin s' h'=>by obtain⟨r,rfl,hq⟩:=h';exact hq) λ_ _ e=>e
 unfold v_
 first
  |refine ab (Bf (name:=dq "__bool__") hT noBool_dict ?_)
  |refine ab (ah (ab (Bf (name:=dq "__bool__") hT noBool_dict ?_)))
 first
  |refine ab (eu (name:=dq "__len__") hT i_.lookup ?_)
  |refine ab (ah (ab (eu (name:=dq "__len__") hT i_.lookup ?_)))
 first
  |exact ab (de key (λr s' h'=>by obtain⟨⟨t,rfl⟩,hq⟩:=h';exact ah (gN▸hq)) λ_ _ e=>e)
  |exact ab (ah (ab (de key (λr s' h'=>by obtain⟨⟨t,rfl⟩,hq⟩:=h';exact ah (gN▸hq)) λ_ _ e=>e)))
end
section
variable {X:Cx}{M:List Md}{a:Expr}{ta:TE}{fa:EvE}{ca:Cat}
def b4P(ha:PE X a ta)(he:∀whole,so a X.env whole=(do let v <-whole;standAt a.pos;rd [v] (v_ v))):PT X a (λY H Q=>ta Y H λx H'=>∃p es,x=.ref p/\H' p=cz (c6 p es)/\Q (!es.isEmpty) H'):=by
 intro pins s Y H Q I h;refine isTrue_plain (L2.thn (ha pins s Y H _ I h) λv s1 ⟨x,H1,I1,r1,p,es,ex,hH,q1⟩=>?_) (he _);subst ex;obtain rfl:v=be p:=r1;exact b0o I1 hH λs' I'=>⟨H1,I',q1⟩
def trD:D->Option Bool
 |.dict kvs=>cz !kvs.isEmpty
 |_=>p4
noncomputable def tVD(a:EvE):EvT:=λU=>(a U).bind trD
def b2q(ha:PX X M a fa ca)(he:∀whole,so a X.env whole=(do let v <-whole;standAt a.pos;rd [v] (v_ v)):=by intro _;rfl):PTX X M a (tVD fa):=by
 obtain⟨ta,pa,qa⟩:=ha.out;refine .mk ⟨_,b4P pa he,λU Y H P F k Q S hf q=>?_⟩;obtain⟨x,h1,hf⟩:=bnd hf;refine qa U Y H P F _ _ S h1 λv H1 e1 r1=>?_
 cases x with
 |dict kvs=>
  have pG:cz (!kvs.isEmpty)=cz k:=hf;cases pG
  obtain⟨p,es,rfl,hH,dk⟩:=r1.den.dict_inv;refine⟨p,es,rfl,hH,?_⟩;have hl:es.isEmpty=kvs.isEmpty:=by
   have:=d_ gA dk.keys;rw[ag,ag]at this;cases es<;>cases kvs<;>simp_all
  rw[hl];exact q H1 e1
 |_=>cases hf
end
end VS
namespace VS
open PySem PySem.Spec L2
section
variable {X:Cx}{pins:List (au×gE)}{Y:L2.St}{H:Hp}{s:aq}{A:bL}{E:aj->aq->Prop}{a:au}{es fs:List (D×V×V)}{k:D}{kv v:V}{key val:aj}{kt:Bool}{F:List au}
theorem a1V:∀{l:List α} {m:List β},fB R l m->∀{i:Nat} {x:α},l[i]?=cz x->∃y,m[i]?=cz y/\R x y
 |_,_,.nil,i,x,h=>by simp at h
 |_,_,.cons r t,0,x,h=>by
  cases h
  exact⟨_,rfl,r⟩
 |_,_,.cons r t,i+1,x,h=>by
  obtain⟨y,h1,h2⟩:=a1V t (i:=i) (x:=x) (by simpa using h);exact⟨y,by simpa using h1,h2⟩
def a6A(I:Inv X pins Y H s)(hu:A.units+10<du)(h:H a=cz (c6 a es))(K:KeysAt X H kt es k kv)(rk:RelV kv key)(rv:RelV v val)(hl:es.length<aV)(qy:∀e∈es,e.1≠k) 
  (hQ:∀h',Inv X pins Y (upd H a (c6 a (es++[(k,kv,v)]))) {s with heap:=h'}->dH a s.heap h'->Q () {s with heap:=h'}):aG (aT X.prog X.w) A (lZ a key (hashD k) val) Q E s:=by
 obtain⟨hs,_,hn,o,ents,ep,h1,h2,h3,h4⟩:=n9 I h;have hsz:ents.size<=aV:=by
  have:=cS h4;have e2:ents.toList.length=ents.size:=by simp
  lia
 have hf:s9 es k=xn:=by
  unfold s9;rw[cI];exact λe he hq=>qy e he ((K.eqv he).mp hq)
 unfold lZ
 try with_reducible refine cx ?_
 refine ab (X9 I hu h1 h3 h4 hn K.keys K.key K.den rk ?_ ?_)
 ·intro _;exact ab (gw (nX (hz:=hsz) h1 h3 (hQ _ (a1t (t':=s.toks) I h K rk rv hl hf h1 h2 h3 h4) (eM ..))))
 ·intro j e he gu;exact absurd gu (qy e (bz he))
def b2r(I:Inv X pins Y H s)(hu:A.units+10<du)(hd:H d=cz (c6 d es))(ho:H o=cz (c6 o fs))(tX:d≠o)(gN:es≠[])(Ao:d∈F)
  (hk:∀e∈es++fs,keyOk kt e.1/\Den X.K (cut H F) e.2.1 e.1) (kc:((es++fs).map (·.1)).Nodup) (hsz:es.length+fs.length<=aV) (hQ:∀s',Inv X pins Y (upd H d (c6 d (es++fs))) s'->Q () s') :
  aG (aT X.prog X.w) A (jD nm d o) Q E s:=by
 obtain⟨HK,_,hn,od,sP,H_,EG,jg,sM,EA⟩:=n9 I hd;obtain⟨EH,_,qy,oo,nt,HZ,yf,HL,rl,BV⟩:=n9 I ho;unfold jD;rw[aI (by simpa using tX)];unfold jR;rw[aI (by rw[EH];exact bo)];refine ab (ah ?_);refine ab (cK yf rl ?_);have hlen:fs.length=nt.size:=by rw[cS BV];simp
 have BL:∀o',Same (cut H F) (cut (upd H d o') F):=λo' c u hc=>by
  obtain⟨q1,q2⟩:=p5 hc;have ne:c≠d:=λz=>q1 (by rw[z];exact Ao)
  exact j5 q1 (by rw[f7 ne];exact q2)
 have loop:aG (aT X.prog X.w) A (do
   let xI <-dictEpoch o
   let l <-dictEntries o
   forIn [:l.size] lG λi (_:PUnit)=>(do
     let l' <-dictEntries o
     match l'[i]? with
      |some e=>do
       rd [e.key,e.val] (lZ d e.key e.hash e.val)
       let sQ <-dictEpoch o
       if (sQ !=xI)=rp then do
         (tF (toString nm++toString ":source-changed-during-callback"):yK PUnit)
         pure (dW lG)
        else pure (dW lG)
      |_=>do
       (tF "internal:dict-merge":yK PUnit)
       pure (dW lG):yK (ForInStep PUnit))
   pure ()) Q E s:=by
  refine ab (kB yf rl ?_);refine ab (cK yf rl ?_);refine ab ?_;rw[Std.Legacy.Range.forIn_eq_forIn_range'];simp only[Std.Legacy.Range.size,Nat.sub_zero,Nat.add_sub_cancel,Nat.div_one];have start:Inv X pins Y (upd H d (c6 d (es++fs.take 0))) s:=by
   have e:upd H d (c6 d (es++fs.take 0))=H:=by
    funext c
    by_cases z:c=d
    ·rw[z,g9,hd];simp
    ·rw[f7 z]
   rw[e];exact I
  refine wpAny_forIn_list _
   (λrest _ s'=>∃i,rest=List.range' i (nt.size-i)/\i<=nt.size/\Inv X pins Y (upd H d (c6 d (es++fs.take i))) s'/\s'.heap.get? o=cz oo)
   _ ?_ ?_ _ _ ⟨0,by simp,cj _,start,yf⟩
  ·rintro x rest b s' ⟨i,hr,hi,I',uN⟩;have gX:i<nt.size:=by
    rcases eS i nt.size with h|h
    ·exact h
    ·rw[Nat.sub_eq_zero_of_le h]at hr;simp at hr
   obtain⟨rfl,ki⟩:x=i/\rest=List.range' (i+1) (nt.size-(i+1)):=by
    have e:nt.size-i=(nt.size-(i+1))+1:=by lia
    rw[e,GV]at hr
    injection hr with h1 h2
    exact⟨h1,h2⟩
   refine ab (cK uN rl ?_);rw[bt gX];obtain⟨f,hf⟩:∃f,fs[x]?=cz f:=⟨fs[x]'(by rw[hlen];exact gX),ai _⟩;obtain⟨y,hy,hh,rk,rv⟩:=a1V BV hf;have zv:nt[x]=y:=by
    have:nt.toList[x]?=cz nt[x]:=by simp[gX]
    rw[hy]at this;exact (aK this).symm
   show aG _ _ (rd [nt[x].key,nt[x].val] (lZ d nt[x].key nt[x].hash nt[x].val) >>= _) _ _ _;rw[zv,hh];have mC:es++fs=(es++fs.take x)++f::fs.drop (x+1):=by
    have e1:fs=fs.take x++f::fs.drop (x+1):=by
     have qK:=(aN.mp hf);obtain⟨vE,zw⟩:=qK;rw[<-zw,<-cB vE,ji]
    rw[bg,<-e1]
   have KK:KeysAt X (upd H d (c6 d (es++fs.take x))) kt (es++fs.take x) f.1 f.2.1:=
    ⟨λe he=>⟨(hk e (by rw[mC];exact aO _ he)).1,((hk e (by rw[mC];exact aO _ he)).2.up (BL _)).up i4⟩,
     (hk f (by rw[mC];simp)).1,((hk f (by rw[mC];simp)).2.up (BL _)).up i4⟩
   have sD:∀e∈es++fs.take x,e.1≠f.1:=λe he z=>by
    rw[mC,aQ,aA,bh]at kc;exact kc.2.2 e.1 (bO he) f.1 av z
   have Cb:(es++fs.take x).length<aV:=by
    rw[a_,bT];lia
   refine ab (cx (a6A (v:=f.2.2) I' hu g9 KK rk rv Cb sD λGh Dh sb=>?_));have tP:Gh.get? o=cz oo:=(sb.2 o (dN tX)).trans uN;refine ab (kB tP rl ?_);rw[aI (by simp)];refine ah ⟨x+1,ki,gX,?_,tP⟩;rw[b3S,bg]at Dh;have e2:fs.take (x+1)=fs.take x++[(f.1,f.2.1,f.2.2)]:=by rw[List.take_add_one,hf];rfl
   rw[e2];exact Dh
  ·rintro b s' ⟨i,hr,hi,I',uN⟩;have mG:i=nt.size:=by
    rcases eS i nt.size with h|h
    ·have e:nt.size-i=(nt.size-(i+1))+1:=by lia
     rw[e,GV]at hr;exact nomatch hr
    ·exact Nat.le_antisymm hi h
   rw[mG,<-hlen,lr]at I';exact ah (hQ s' I')
 dsimp only
 split
 ·refine ab (cK EG sM ?_)
  split
  ·rename_i Aj
   have h0:sP=#[]:=Array.isEmpty_iff.mp Aj;have:=cS EA;rw[h0]at this;exact absurd (gq.mp (by simpa using this)) gN
  ·exact loop
 ·exact loop
def b0p(hu:A.units+12<du)(I:Inv X pins Y H s)(hd:H d=cz (c6 d es))(ho:H o=cz (c6 o fs))(tX:d≠o)(gN:es≠[])(Ao:d∈F)
  (hk:∀e∈es++fs,keyOk kt e.1/\Den X.K (cut H F) e.2.1 e.1) (kc:((es++fs).map (·.1)).Nodup) (hsz:es.length+fs.length<=aV) (hQ:∀s',Inv X pins Y (upd H d (c6 d (es++fs))) s'->Q .none s') :
  aG (aT X.prog X.w) A (call (.builtin "dict.update") [.ref d,.ref o]) Q E s:=by
 have hT:=j7 I hd;have vh:=j7 I ho;refine cD sV hT PySem.F.entry_dict_update ?_ (PySem.F.args_dict_update_2 _ _);unfold Builtin.«dict.update»;refine ab ?_;unfold mh;refine ab (gf hT ?_);show aG _ _ (pure (d,[be o])) _ _ s;refine ah ?_;show aG _ _ (fG "dict.update" d (.ref o) [] .none) _ _ s;unfold fG;refine ab (jw vh ?_);rw[aI (by decide)];refine ab ?_;unfold Builtin.Dict.merge;refine ab ?_;unfold yO;refine ab (ix vh isSubtype_dict_dict ?_);simp only[fH,bF,dw];refine ab (eu vh PySem.F.slot_dict_iter.lookup (ah ?_));simp only[gY,jt];refine ab (ah ?_);refine b2r (A:=A.in1) I (by show A.units+1+10<du;lia) hd ho tX gN Ao hk kc hsz λs' I'=>?_
 show aG _ _ (Ba d [] >>= _) _ _ _;exact ab (ah (ah ⟨.none,rfl,hQ s' I'⟩))
end
section
variable {K:ae}{M:List Md}{U:List D}{Y:L2.St}{H P:Hp}{F:List au}{i j:Nat}{kt:Bool}{u:Ty}
def StR.update(iH:i≠j)(h:StR K M U Y H P F)(hi:M[i]?=cz (.own (.d kt u)))(hj:M[j]?=cz (.own (.d kt u))) :
  ∃F' a b es fs ds fS,Y[i]?=cz (cz (.ref a))/\Y[j]?=cz (cz (.ref b))/\a≠b/\U[i]?=cz (.dict ((es.map (·.1)).zip ds))/\U[j]?=cz (.dict ((fs.map (·.1)).zip fS))/\H a=cz (c6 a es)/\H b=cz (c6 b fs)/\a∈F'/\
   (∀e∈es++fs,keyOk kt e.1/\Den K (cut H F') e.2.1 e.1)/\ds.length=es.length/\fS.length=fs.length/\(es.map (·.1)).Nodup/\(fs.map (·.1)).Nodup/\
   (((es++fs).map (·.1)).Nodup->StR K (M.set j (.keys kt)) (U.set i (.dict (((es++fs).map (·.1)).zip (ds++fS)))) Y (upd H a (c6 a (es++fs))) P F'):=by
 obtain⟨G,h1,h2,h3⟩:=h.all;obtain⟨dj,oj,fj,qT,oh,CN,yF,⟨vj,rfl,Oj⟩,AM,Gr⟩:=h1.at_ hj;obtain⟨b,fs,fS,gs,rfl,yz,rfl,rfl,yj,FZ,tQ,zS⟩:=Oj.dict;rw[AM]at h2;have jT:∀x∈F.filter (λx=>decide (x≠b)),x∈F:=λx hx=>(bG.mp hx).1
 have tY:b∉F.filter (λx=>decide (x≠b)):=λhx=>absurd rfl (aR (bG.mp hx).2)
 have hc:Same (cut H F) (cut H (F.filter (λx=>decide (x≠b)))):=F9 jT;have wb:SlotR K H (F.filter (λx=>decide (x≠b))) (.keys kt) (cz (.ref b)) (.dict ((fs.map (·.1)).zip fS)) []:=
  ⟨rfl,b,fs,_,rfl,rfl,j5 tY yz,(GX (by rw[ag,tQ];exact ay _)).symm,λe he=>⟨(yj e he).1,(yj e he).2.up hc⟩⟩
 have q1:=Gr H _ (.keys kt) _ (cz (.ref b)) [] (λ_ _=>rfl) hc wb;rw[set_same CN,set_same yF]at q1;have yh:(M.set j (.keys kt))[i]?=cz (.own (.d kt u)):=by rw[dg (dN iH)];exact hi
 obtain⟨di,oi,f1,qf,nj,Gv,yG,⟨vi,rfl,Oi⟩,Gu,Gs⟩:=q1.at_ yh;obtain⟨a,es,ds,fi,rfl,yA,rfl,rfl,yk,F_,nJ,yg⟩:=Oi.dict;have vp:qT++oh=qf++((a::fi)++nj):=by simpa using Gu
 have apart:=a4t h2;have mF:∀x∈qT++oh,x∈F:=λx hx=>h3 x (by rw[AM];exact mem_mid hx)
 have vg:a∈qT++oh:=by rw[vp];simp
 have qO:a≠b:=λz=>apart b av (by rw[<-z];exact vg)
 have vD:∀x∈F,x≠b->x∈F.filter (λx=>decide (x≠b)):=λx hx hb=>bG.mpr ⟨hx,aE hb⟩
 have oY:a∈F.filter (λx=>decide (x≠b)):=vD a (mF a vg) qO;have oA:∀e∈es++fs,keyOk kt e.1/\Den K (cut H (F.filter (λx=>decide (x≠b)))) e.2.1 e.1:=λe he=>by
  rcases az.mp he with z|z
  ·exact yk e z
  ·exact⟨(yj e z).1,(yj e z).2.up hc⟩
 refine⟨_,a,b,es,fs,ds,fS,yG,yF,qO,Gv,CN,yA,yz,oY,oA,nJ,tQ,yg,zS,λkc=>?_⟩;have nT:Same (cut H (F.filter (λx=>decide (x≠b)))) (cut (upd H a (c6 a (es++fs))) (F.filter (λx=>decide (x≠b)))):=λc o' yq=>by
  obtain⟨r1,r2⟩:=p5 yq;have ne:c≠a:=λz=>r1 (by rw[z];exact oY)
  exact j5 r1 (by rw[f7 ne];exact r2)
 have wR:(qf++((a::fi)++nj)).Nodup:=by rw[<-vp];exact Q2 h2
 have xw:a∉fi++nj:=by
  have:=(bh.mp wR).2.1;rw[bw,bB]at this;exact this.1
 have xu:a∉qf:=λz=>(bh.mp wR).2.2 a z a (by simp) rfl
 have Ax:a∉gs:=λz=>apart a (aw _ z) vg
 have own:Own K (upd H a (c6 a (es++fs))) (F.filter (λx=>decide (x≠b))) (.d kt u) (.ref a) (.dict (((es++fs).map (·.1)).zip (ds++fS))) (a::(fi++gs)):=by
  simp only[Own];refine⟨a,es++fs,ds++fS,fi++gs,rfl,g9,rfl,rfl,⟨kc,λe he=>⟨(oA e he).1,(oA e he).2.up nT⟩⟩,?_⟩;rw[aQ];refine ListAll.append (F_.imp λv d f hf _ q=>q.frame nT u λx hx=>?_) (FZ.imp λv d f hf _ q=>q.frame (hc.trans nT) u λx hx=>?_)
  ·exact f7 λz=>xw (aO _ (by rw[<-z];exact hf x hx))
  ·exact f7 λz=>Ax (by rw[<-z];exact hf x hx)
 have q2:=Gs _ _ (.own (.d kt u)) _ (cz (.ref a)) (a::(fi++gs)) (λx hx=>f7 λz=>by
  rcases az.mp hx with y|y
  ·exact xu (by rw[<-z];exact y)
  ·exact xw (ax _ (by rw[<-z];exact y))) nT ⟨_,rfl,own⟩
 rw[set_same yh,set_same yG]at q2;have xc:gs.Nodup:=by
  have:=(bh.mp h2).2.1;rw[bw,bB]at this;exact (bh.mp this.2).1
 have eG:qf++((a::(fi++gs))++nj)=(qf++(a::fi))++(gs++nj):=by simp
 have eP:qT++oh=(qf++(a::fi))++nj:=by rw[vp];simp
 refine⟨⟨_,q2,?_,λx hx=>?_⟩,λx hx=>?_,h.prot.trans (hc.trans nT)⟩
 ·rw[eG];exact a1k (by rw[<-eP];exact Q2 h2) xc λx hx z=>apart x (aw _ hx) (by rw[eP];exact z)
 ·rw[eG]at hx;rcases a5s hx with z|z
  ·have nU:x≠b:=λy=>by
    have:=(bh.mp h2).2.1;rw[bw,bB]at this;exact this.1 (aO _ (by rw[<-y];exact z))
   exact vD x (h3 x (by rw[AM];exact ax _ (aO _ (aw _ z)))) nU
  ·have sr:x∈qT++oh:=by rw[eP];exact z
   exact vD x (mF x sr) λy=>apart b av (by rw[<-y];exact sr)
 ·by_cases z:x=a
  ·rw[z];exact⟨⟨c6 a (es++fs),trivial⟩,g9⟩
  ·rw[f7 z];exact h.lst x (jT x hx)
end
noncomputable def b0q(i j:Nat):EvS:=λU=>match U.getD i .none,U.getD j .none with
 |.dict kvs,.dict more=>if !kvs.isEmpty&&(more.all λp=>!w6 kvs p.1)&&decide (kvs.length+more.length<=1000000) then cz (.nx (U.set i (.dict (kvs++more)))) else p4
 |_,_=>p4
section
variable {X:Cx}{w u:Ty}{ML M:List Md}{kt:Bool}{pos apos cM px py:fQ}{x y:bI}
def c1j(X:Cx):V->List V->Hp->VK->Prop:=λz xs H Q=>∃p q es fs kt F,z=.ref p/\xs=[.ref q]/\H p=cz (c6 p es)/\H q=cz (c6 q fs)/\p≠q/\es≠[]/\p∈F/\(∀e∈es++fs,keyOk kt e.1/\Den X.K (cut H F) e.2.1 e.1)/\((es++fs).map (·.1)).Nodup/\es.length+fs.length<=aV/\Q .non (upd H p (c6 p (es++fs)))
def b7Q(hu:X.A.units+64<du):MtR X "dict.update" (c1j X):=by
 intro pins s Y H z xs v us Q I rx rv h;obtain⟨p,q,es,fs,kt,F,rfl,rfl,hp,hq,Ez,gN,EB,hk,kc,hsz,qq⟩:=h;cases (show v=be p from rx)
 obtain⟨w,rfl,rw⟩:=rv.one;cases (show w=be q from rw)
 exact b0p (by lia) I hp hq Ez gN EB hk kc hsz λs' I'=>⟨.non,_,I',rfl,qq⟩
def b0r(i j:Nat)(iH:i≠j)(hu:X.A.units+64<du)(hi:M[i]?=cz (.own (.d kt u)):=by rfl)(hj:M[j]?=cz (.own (.d kt u)):=by rfl)(FW:X.N[i]?=cz x:=by rfl)(FV:X.N[j]?=cz y:=by rfl)
  (En:Vis X.env.scope x:=by first|exact cg rfl|exact bP (cg rfl)|exact bP (bP rfl)) (Em:Vis X.env.scope y:=by first|exact cg rfl|exact bP (cg rfl)|exact bP (bP rfl))
  (ro:(x==("__debug__":bI))=xn:=by decide) (FC:(x==("__classdict__":bI))=xn:=by decide) (Ft:(y==("__debug__":bI))=xn:=by decide) (FA:(y==("__classdict__":bI))=xn:=by decide)
  (fx:dC (.Name x px) "update" X.env (cG (.Name x px) X.env)=cG (.Name x px) X.env:=by rfl)
  (lC:((cC cM (ao [.Name y py] X.env)).all (λx=>!x.1)&&(oI cM (kg [] X.env)).all (λx=>x.1.isSome)
   && decide (([.Name y py]:List Expr).length+([]:List iE).length+(if ([]:List iE).isEmpty then 0 else 1)<30))=rp:=by rfl)
  (fw:(apos.endLine==cM.line)=rp:=by rfl) (hs:ao [.Name y py] X.env=(xn,cG (.Name y py) X.env)::ao [] X.env:=by rfl) (hX:(cC cM (ao [] X.env)).any (·.1)=xn:=by rfl)
  (oq:eX (.Call (.Attribute (.Name x px) "update" apos) [.Name y py] [] cM) p4 pos.line X.env=pure xn:=by rfl) :
  PSX X w ML M (.Expr (.Call (.Attribute (.Name x px) "update" apos) [.Name y py] [] cM) pos) (b0q i j) (M.set j (.keys kt)):=by
 refine .mk ⟨_,X1 (b2i sV PySem.F.type_dict_update (b7Q hu) (x9 FW En ro FC) (k9 (x9 FV Em Ft FA) o7 hs) fx lC fw hs hX) oq,λD U Y H P F o S hg k=>?_⟩;obtain⟨F',a,b,es,fs,ds,fS,s1,s2,qO,r1,r2,yA,yz,oY,oA,nJ,tQ,yg,zS,S'⟩:=S.update iH hi hj;unfold b0q at hg;rw[v8 r1,v8 r2]at hg;have mo:(if !((es.map (·.1)).zip ds).isEmpty&&(((fs.map (·.1)).zip fS).all λp=>!w6 ((es.map (·.1)).zip ds) p.1)&&decide (((es.map (·.1)).zip ds).length+((fs.map (·.1)).zip fS).length<=1000000) then cz (Out.nx (U.set i (.dict ((es.map (·.1)).zip ds++(fs.map (·.1)).zip fS)))) else p4)=cz o:=hg
 split at mo
 ·next c=>
  cases mo
  rw[ar,ar]at c;obtain⟨⟨c1,c2⟩,c3⟩:=c;have l1:((es.map (·.1)).zip ds).length=es.length:=by rw[dS,ag,nJ,jZ]
  have l2:((fs.map (·.1)).zip fS).length=fs.length:=by rw[dS,ag,tQ,jZ]
  have GL:=aR c3;rw[l1,l2]at GL;have gN:es≠[]:=λz=>by rw[z]at c1;simp at c1
  have kc:((es++fs).map (·.1)).Nodup:=by
   rw[aQ,bh];refine⟨yg,zS,λp hp q hq z=>?_⟩;obtain⟨e,he,rfl⟩:=bj.mp hp;obtain⟨f,hf,rfl⟩:=bj.mp hq;obtain⟨n,hn⟩:=bS.mp hf;have gX:n<fS.length:=by rw[tQ];exact (aN.mp hn).1
   have hm:(f.1,fS[n])∈(fs.map (·.1)).zip fS:=by
    refine bS.mpr ⟨n,?_⟩;rw[kF];exact⟨by rw[aZ,hn];rfl,ai gX⟩
   have qy:=bD.mp c2 _ hm;have sC:w6 ((es.map (·.1)).zip ds) f.1=xn:=by simpa using qy
   rw[w8 nJ]at sC;unfold s9 at sC;rw[cI]at sC;refine sC e he ?_;exact (B6 e.1 f.1 (oA e (aO _ he)).1.1 (oA f (ax _ hf)).1.1).mpr z
  have hz:aV=16777216:=cJ;refine⟨.ref a,s1,⟨a,es,rfl,yA⟩,.ref b,s2,⟨a,b,es,fs,kt,F',rfl,rfl,yA,yz,qO,gN,oY,oA,kc,by lia,?_⟩⟩;have S2:=S' kc;rw[aQ,qF (by rw[ag];exact nJ.symm)]at S2;exact k Y _ F' S2
 ·cases mo
end
def StE.getKeys(h:StE K M U Y H P F)(hm:M[j]?=cz (.keys kt)) :
  ∃a es kvs,Y[j]?=cz (cz (.ref a))/\U.getD j .none=.dict kvs/\H a=cz (c6 a es)/\es.map (·.1)=kvs.map (·.1)/\∀e∈es,keyOk kt e.1/\Den K H e.2.1 e.1:=by
 obtain⟨G,h1,h3⟩:=h.all;obtain⟨d,o,f,pre,post,e1,e2,⟨_,a,es,kvs,rfl,rfl,z1,z2,z3⟩,e4,_⟩:=h1.at_ hm;exact⟨a,es,kvs,e2,v8 e1,i4 _ _ z1,z2,λe he=>⟨(z3 e he).1,(z3 e he).2.up i4⟩⟩
section
variable {X:Cx}{M:List Md}{a:Expr}{fa:EvE}{ca:Cat}{kt:Bool}{pos py:fQ}{y:bI}
def b4Q(j:Nat)(ho:OpR X (bU op) (a3Z X neg))(ha:PX X M a fa ca)(hj:M[j]?=cz (.keys kt):=by rfl)(hN:X.N[j]?=cz y:=by rfl)(hv:Vis X.env.scope y:=by first|exact cg rfl|exact bP (cg rfl)|exact bP (bP rfl))
  (hd:(y==("__debug__":bI))=xn:=by decide) (hc:(y==("__classdict__":bI))=xn:=by decide) (hm:fq op (.Name y py)=xn:=by first|exact a0h _|with_unfolding_all rfl):PTX X M (.Compare a [op] [.Name y py] pos) (tB (e2 (dIn neg kt) fa (b7 j))):=by
 obtain⟨ta,pa,qa⟩:=ha.out;refine .mk ⟨_,a0v ho pa (x9 hN hv hd hc) hm,λU Y H P F k Q S hf q=>?_⟩;obtain⟨d,hf,sE⟩:=bnd hf;cases J8 sE
 obtain⟨x,z,h1,h2,h3⟩:=C3 hf;cases h2
 refine qa U Y H P F x _ S h1 λv H1 e1 r1=>?_
 obtain⟨p,es,kvs,s1,hr,hH,hk,oA⟩:=(S.grow e1).getKeys hj;rw[hr]at h3;obtain⟨DZ,e3,EZ,e4⟩:=a6x h3;cases e3
 refine⟨.ref p,s1,p,es,kt,x,rfl,hH,⟨oA,u9 EZ,r1.den⟩,?_⟩;rw[<-a1v hk];cases e4
 exact⟨_,rfl,q H1 e1⟩
end
def b0s(neg:Bool):D->D->Option D
 |y,.list ds=>if bp ds&&y.canLay0&&decide (y.depth<=60) then cz (.bool (neg !=ds.any λd=>aH d y)) else p4
 |_,_=>p4
def b9S(K:ae)(neg:Bool):R2:=λx y H Q=>∃p ys ds d,y=.ref p/\SqX K H p ys/\DenAll K H ys ds/\Den K H x d/\bp ds=rp/\d.canLay0=rp/\d.depth<=60/\Q (.bl (neg !=ds.any λe=>aH e d)) H
def b7R:∀{l:List D} {e:D},bp l=rp->e∈l->e.canLay0=rp:=by
 intro l
 induction l with
 |nil=>intro e _ he;cases he
 |cons x l ih=>
  intro e hl he;simp only[bp,ar]at hl;rcases aF.mp he with z|z
  ·rw[z];exact hl.1
  ·exact ih hl.2 z
section
variable {X:Cx}
def b0t{s:aq}:∀{ds:List D} {us:List aj} {as:List au},jz s.heap us ds as->bp ds=rp->us.any (b4L s.heap d)=ds.any λe=>aH e d:=by
 intro ds
 induction ds with
 |nil=>intro us as r _;cases r;rfl
 |cons d0 ds ih=>
  intro us as r hl;simp only[bp,ar]at hl;cases r with
  |cons r1 r2=>rw[kU,kU,ih r2 hl.2,a8X r1 hl.1]
def b7S(hu:X.A.units+64<du):OpR X (bU .In) (b9S X.K xn):=by
 intro pins s Y H x y v u Q I rx ry h;obtain⟨p,ys,ds,d,rfl,hp,Al,hd,c1,c2,c3,q⟩:=h;cases (show u=be p from ry)
 obtain⟨_,cQ,n,uz,ho⟩:=hp.ok I;obtain⟨as,ra⟩:=DenAll.reads I ds c1 Al uz;obtain⟨bs,rb⟩:=Den.reads I d c2 hd rx;refine SeqAt.in_listAt (items:=cQ.toArray) (b4L s.heap d) ⟨_,ho,rfl,n,rfl⟩ (λu tM=>?_) ⟨.bl _,H,I,rfl,?_⟩
 ·obtain⟨j,hj⟩:=bS.mp (show u∈cQ by simpa using tM);obtain⟨e,GP,he,re⟩:=a5F ra hj;have hle:=b7R c1 (bz he);rw[a8X re hle];exact SeqAt.eqAt_reads e d X.A.in1 s _ _ _ _ re rb hle c2 (by have:=Nat.min_le_right e.depth d.depth;show X.A.units+1+_<_;lia)
 ·rw[List.any_toArray,b0t ra c1];simpa using q
def b7T(ho:OpR X f (b9S X.K neg)):OpS X f (b0s neg):=by
 refine⟨_,ho,λx y H a b d Q ha hb hg q=>?_⟩;cases b with
 |list ds=>
  have mo:(if bp ds&&a.canLay0&&decide (a.depth<=60) then cz (dE (neg !=ds.any λd=>aH d a)) else p4)=cz d:=hg;by_cases c:(bp ds&&a.canLay0&&decide (a.depth<=60))=rp
  ·rw[aC c]at mo;cases mo
   rw[ar,ar]at c;obtain⟨p,ys,rfl,k1,k2⟩:=hb.list_inv;exact⟨p,ys,ds,a,rfl,k1,k2,ha,c.1.1,c.1.2,aR c.2,q _ (by simp only[imm]) λ_=>den_bool⟩
  ·rw[aI c]at mo;cases mo
 |_=>cases hg
def b7U(hu:X.A.units+64<du):OpS X (bU .In) (b0s xn):=b7T (b7S hu)
end
section
variable {K:ae}{H:Hp}{F:List au}
theorem a3e:∀{p:List Nat} {u ty:Ty} {v w:V} {d d':D} {fp:List au},Own K H F u v d fp->dAt u d p=cz (ty,d')->wk H v p w->∃f,Own K H F ty w d' f/\f.Sublist fp
 |[],u,ty,v,w,d,d',fp,h,hd,hw=>by
  have h':cz (u,d)=cz (ty,d'):=by simpa only [dAt]using hd
  cases h'
  cases (show w=v from hw)
  exact⟨fp,h,oV _⟩
 |j::p,u,ty,v,w,d,d',fp,h,hd,hw=>by
  obtain⟨a0,tz,v1,rfl,uF,sG,hw⟩:=hw;cases u with
  |l u=>
   cases d with
   |list es=>
    obtain⟨d1,g1,g2⟩:=bnd (show (es[j]?).bind (λd=>dAt u d p)=cz (ty,d') from hd);simp only[Own]at h;rcases h with⟨_,hi,_⟩|⟨a,xs,fS,fs,e0,h1,h2,rfl,h3⟩
    ·simp only[imm]at hi;cases hi
    ·cases h2
     cases e0
     have uC:tz=xs:=by rcases uF with z|z<;>rw[h1]at z<;>cases z;rfl
     subst uC;obtain⟨v2,f,pre,post,z1,z2,rfl,_⟩:=h3.zip g1;rw[sG]at z1;cases z1
     obtain⟨f',o,hs⟩:=a3e z2 g2 hw;exact⟨f',o,hs.trans (((il f post).trans (hU pre _)).cons _)⟩
   |_=>cases hd
  |tp us=>
   cases d with
   |tuple es=>
    obtain⟨u1,g0,AI⟩:=bnd (show (us[j]?).bind (λu=>(es[j]?).bind λd=>dAt u d p)=cz (ty,d') from hd);obtain⟨d1,g1,g2⟩:=bnd AI;simp only[Own]at h;obtain⟨a,xs,fS,e0,h1,h0,h2,h3⟩:=h;cases h2
    cases e0
    have uC:tz=xs:=by rcases uF with z|z<;>rw[h1]at z<;>cases z;rfl
    subst uC;obtain⟨v2,f,pre,post,z1,z2,rfl,_⟩:=h3.zip g0 g1;rw[sG]at z1;cases z1
    obtain⟨f',o,hs⟩:=a3e z2 g2 hw;exact⟨f',o,hs.trans ((il f post).trans (hU pre _))⟩
   |_=>cases hd
  |i=>cases hd
  |f=>cases hd
  |d kt u=>cases hd
end
noncomputable def b2s(f:EvE):List D->D->Option D:=λU d=>match d with
 |.list es=>if es.length<1000000 then (f U).bind λv=>cz (.list (es++[v])) else p4
 |_=>p4
def a6B(g:D->Option D):List D->Option (List D)
 |[]=>cz []
 |d::ds=>(g d).bind λe=>(a6B g ds).bind λes=>cz (e::es)
def b7V(g:List D->D->Option D):List D->D->Option D:=λU d=>match d with
 |.list ds=>(a6B (g U) ds).bind λes=>cz (.list es)
 |_=>p4
def b4R(h:i≠k:=by decide):∀U x,b7 k (U.set i x)=b7 k U:=λU x=>by
 show cz ((U.set i x).getD k .none)=cz (U.getD k .none);rw[aB,dg h,aB]
theorem a6C:∀{ds es:List D},a6B g ds=cz es->es.length=ds.length
 |[],es,h=>by cases h;rfl
 |d::ds,es,h=>by
  obtain⟨e,h1,h⟩:=bnd (show (g d).bind _=cz es from h);obtain⟨r,h2,h⟩:=bnd h;cases h
  rw[ba,ba,a6C h2]
theorem a6D:∀{ds es:List D} {k:Nat} {d:D},a6B g ds=cz es->ds[k]?=cz d->∃e,es[k]?=cz e/\g d=cz e
 |[],es,k,d,h,hk=>by simp at hk
 |d0::ds,es,k,d,h,hk=>by
  obtain⟨e,h1,h⟩:=bnd (show (g d0).bind _=cz es from h);obtain⟨r,h2,h⟩:=bnd h;cases h
  cases k with
  |zero=>
   have:d0=d:=by simpa using hk
   subst this;exact⟨e,rfl,h1⟩
  |succ k=>exact a6D (k:=k) h2 (by simpa using hk)
def StR.inb{K:ae}{M:List Md}{U:List D}{Y:L2.St}{H P:Hp}{F:List au}(S:StR K M U Y H P F){i:Nat}{m:Md}(hm:M[i]?=cz m):∃d,U[i]?=cz d:=by
 obtain⟨G,q1,_⟩:=S.all;obtain⟨d0,_,_,_,_,z1,_⟩:=q1.at_ hm;exact⟨d0,z1⟩
section
variable {X:Cx}{M:List Md}{i j:Nat}{u t ty:Ty}{e:Expr}{fe:EvE}{x y:bI}{px py pos apos cM zf:fQ}{sts:List iz}{g:List D->D->Option D}{sl:List Nat}
noncomputable def b4S(i:Nat)(g:List D->D->Option D):EvS:=λU=>(g U (U.getD i .none)).bind λd=>cz (.nx (U.set i d))
end
def frz:Md->Md
 |.own .i=>.own .i
 |.own _=>.own .f
 |m=>m
def b2t(h:SlotR K H F m o d f):SlotR K H [] (frz m) o d []:=by
 have hc:Same (cut H F) (cut H []):=λa x ha=>j5 (by simp) (i4 a x ha)
 have key:∀u:Ty,(∃v,o=cz v/\Own K H F u v d f)->SlotR K H [] (.own .f) o d []:=λu ⟨v,e,q⟩=>⟨v,e,by
  have hd:Den K H v d:=q.den;simp only[Own];exact⟨trivial,hd.up λa x ha=>j5 (by simp) ha⟩⟩
 cases m with
 |dead=>rfl
 |own u=>
  cases u with
  |i=>
   obtain⟨v,e,q⟩:=h;refine⟨v,e,?_⟩;simp only[Own]at q ⊢;exact⟨trivial,q.2.1,q.2.2.up hc⟩
  |f=>exact key _ h
  |l u=>exact key _ h
  |tp us=>exact key _ h
  |d kt u=>exact key _ h
 |exc=>obtain⟨_,h2⟩:=h.frame (H':=H) (F':=[]) hc λ_ _=>rfl;exact⟨rfl,h2⟩
 |keys kt=>obtain⟨_,h2⟩:=h.frame (H':=H) (F':=[]) hc λ_ _=>rfl;exact⟨rfl,h2⟩
 |pin v=>exact⟨rfl,h.2⟩
 |fn Φ=>obtain⟨_,h2⟩:=h.frame (H':=H) (F':=[]) hc λ_ _=>rfl;exact⟨rfl,h2⟩
theorem a1w:∀{M:List Md} {U:List D} {Y:L2.St} {G:List au},StAll K H F M U Y G->StAll K H [] (M.map frz) U Y []
 |[],_,_,_,h=>by simp only[StAll]at h;obtain⟨rfl,rfl,_⟩:=h;exact L7
 |m::M,_,_,_,h=>by
  simp only[StAll]at h;obtain⟨d,U,o,Y,f,g,rfl,rfl,rfl,h1,h2⟩:=h;exact j9 (f:=[]) (g:=[]) (b2t h1) (a1w h2)
theorem StE.frz{K:ae}{M:List Md}{U:List D}{Y:L2.St}{H P:Hp}{F:List au}(S:StE K M U Y H P F):StE K (M.map frz) U Y H P []:=by
 obtain⟨G,h1,_⟩:=S.all;exact⟨⟨[],a1w h1,λa ha=>(nomatch ha)⟩,λa ha=>(nomatch ha),S.prot.trans λa x ha=>j5 (by simp) (i4 a x ha)⟩
section
variable {X:Cx}{M M0 ML:List Md}{t w:Ty}{pos:fQ}
def a6E(i:Nat)(hM:M.map VS.frz=M0)(hN:X.N.Nodup)(hc:X.calm=rp)
  (hi:PIX X M0 tg iter fi) (C:T5 scope X.env.kindOf ys js X.N=rp) (hg:∀cl Cl s H fp,PG (K3 X (tn++ys) scope cl Cl s H fp) tg g) (sH:TgR X.K g n pt) (zU:mm=.i\/mm=.f)
  (qu:mm=.i->∀U ds,fi U=cz ds->∀d∈ds,∀bs,pt d=cz bs->e7 bs=rp) (uH:tn.length=n)
  (ht:∀cl Cl s H fp,PTs (K3 X (tn++ys) scope cl Cl s H fp) ifs (spT X.K (O5 (.own mm) n M0 js) ft)) (he:∀cl Cl s H fp,PX (K3 X (tn++ys) scope cl Cl s H fp) (O5 (.own mm) n M0 js) elt fe (.new t))
  (hu:(Ty.l t).shut=rp:=by rfl) (pA:X.N[i]?=cz x:=by rfl) (hx:Loc X.env.scope x:=by first|exact cg rfl|exact bP rfl) (hm:M[i]?=cz m:=by rfl)
  (oq:eX (.ListComp elt [⟨tg,iter,ifs,0⟩] scope cps) (cz (.Name x px)) pos.line X.env=pure rp:=by rfl) (hs:∀x,dF iter X.env x=pure x:=by intro _;rfl)
  (hf:X.fn x=rp\/X.env.scope.names.lookup x=cz .local:=by first|exact .inl rfl|exact .inr rfl) :
  PSX X w ML M (.Assign [.Name x px] (.ListComp elt [⟨tg,iter,ifs,0⟩] scope cps) pos) (m4 i (n8 fi js pt ft fe)) (M.set i (.own (.l t))):=by
 subst hM;obtain⟨wi,pi,qi⟩:=hi;refine .mk ⟨_,a1L (te:=spE X.K (O5 (.own mm) n (M.map VS.frz) js) fe (.new t)) hc hN pA hx pi C hg ht he oq hs hf,λD U Y H P F o S mo k=>?_⟩;obtain⟨d,h1,g1⟩:=bnd mo;cases g1
 refine a1m qi sH zU qu uH S.toE.frz h1 λv H' e ⟨fp,o,nd,fr⟩=>k _ _ _ (S.set hm e (o.shut_out (λa ha=>?_) (.l t) hu) nd fr)
 rcases az.mp ha with z|z
 ·exact o.lst _ a z
 ·exact S.toE.lst' e a z
end
section
variable {X:Cx}{M ML:List Md}{u:Ty}{e:Expr}{f:EvE}{pos:fQ}
def StR.free(S:StR K M U Y H P F)(hM:M.map frz=M):StR K M U Y H P []:=by
 obtain⟨G,h1,_,_⟩:=S.all;have:=a1w h1;rw[hM]at this;exact⟨⟨[],this,bJ,λa ha=>(nomatch ha)⟩,λa ha=>(nomatch ha),S.prot.trans λa x ha=>j5 (by simp) (i4 a x ha)⟩
end
end VS
namespace VS
open PySem PySem.Spec L2
open PyProof.Rows (KeyOrd mirror bubble getElem?_mirror_all getElem?_bubble mirror_perm bubble_perm)
open PySem.W (KasT kas_asc kas_desc kas_rev kas_tail3 kas_descPart kas_count kas_place kas_bin kas_sort)
section
variable {O:KeyOrd}{key:Nat->O.α}{N:Nat}{sh:aq}{cmp:Nat->Nat->(Bool->aq->Prop)->aq->Prop}
def kyP(key:Nat->O.α)(p:Array Nat)(i:Nat):O.α:=key (p.getD i 0)
def b0u(key:Nat->O.α)(p:Array Nat)(k:Nat):Prop:=∀i j,i<=j->j<k->O.kle (kyP key p i) (kyP key p j)
def AllN(N:Nat)(p:Array Nat):Prop:=p.toList.Perm (aU N)
theorem AllN.size(h:AllN N p):p.size=N:=by
 have:=h.length_eq;simpa using this
end
end VS
namespace PySem
open Sem (wp)
set_option maxRecDepth 100000
def Heap.RawDict(hp:cf)(d:au)(rows:Array eY)(ep:Nat):Prop:=∃u,hp.get? d=cz u/\u.ExactDict/\u.data=.dict rows ep
section
variable {prog:bA}{w:bX}{A:bL}{E:aj->aq->Prop}{sh:aq}{d it:au}{rows:Array eY}{ep i:Nat}
def Heap.RawDict.at{h h':cf}(x:h.RawDict d rows ep)(e:∀o,h.get? d=cz o->h'.get? d=cz o):h'.RawDict d rows ep:=let⟨u,hu,r⟩:=x;⟨u,e _ hu,r⟩
def Heap.RawDict.typeIs(x:sh.heap.RawDict d rows ep):sh.TypeIs (.ref d) "dict":=let⟨u,hu,r,_⟩:=x;⟨u,hu,r.1⟩
def a6F(h0:(d==df)=xn)(hm:sh.heap.RawDict d rows ep)
  (q:Q (.ref sh.heap.objs.size) {sh with heap:=sh.heap.push {cls:=.type "dict_keyiterator",data:=.fields #[.ref d,.int 0 0,.int rows.size 0,.int ep 0]}}) :
  aG (aT prog w) A (pyIter (.ref d)) Q E sh:=by
 obtain⟨u,hu,hx,mY⟩:=id hm;refine wpAny_pyIter_slot hm.typeIs tm (cD tm hm.typeIs F.entry_dict_iter ?_ (F.args_dict_iter_1 _));unfold Builtin.«dict.__iter__»;refine ab ?_;unfold Builtin.Dict.dictSlotNone;refine ab (gf hm.typeIs ?_);show aG _ _ (pure (be d)) _ _ sh;refine ah ?_;show aG _ _ (jR d >>= _) _ _ sh;unfold jR;rw[aI (by rw[h0];exact bo)];refine ab (ah (ab (cK hu mY (ab (kB hu mY ?_)))));refine ab (eL (ah ⟨_,rfl,"dict_keyiterator",_,⟨_,aL _ rfl,rfl⟩,fJ.lookup,?_⟩));simpa[fW]using q
def a6G(hI:sh.heap.IsKeyIter it d i rows.size ep)(hm:sh.heap.RawDict d rows ep)(hi:i<rows.size)
  (q:∀h',h'.IsKeyIter it d (i+1) rows.size ep->dH it sh.heap h'->Q (cz rows[i].key) {sh with heap:=h'}):aG (aT prog w) A (k_ (.ref it)) Q E sh:=by
 obtain⟨x,hx,BI,uE⟩:=id hI;obtain⟨u,hu,_,pQ⟩:=id hm;unfold k_;refine ab (lV (cN (name:=dq "__next__") hI.typeIs fJ (cD fJ hI.typeIs ur ?_ (tu _))));refine ab (ah (ab (ab ?_)))
 first|refine ab (gH hI.typeIs (ah ?_))|refine ab (iO hI.typeIs (ah ?_))
 refine ab (wpAny_fieldsOf hx uE ?_);simp only[show vy "dict_keyiterator"=xn from by decide,bF,dw];show aG _ _ (if (be d==bb)=rp then _ else _) _ _ sh;rw[aI (show ¬ (be d==bb)=rp from bo)];refine ab (ah (ab (cK hu pQ ?_)));rw[aI (by simp)];refine ab (ah (ab (kB hu pQ ?_)));rw[aI (by simp)];refine ah ?_;simp only[show ¬ (i:Int)<0 from by lia,dw,bQ,bt hi];refine ab ?_
 first|refine ab (gH hI.typeIs (ah ?_))|refine ab (iO hI.typeIs (ah ?_))
 refine ab (Hd hI.typeIs ?_);show aG _ _ (setField (.ref it) 1 (fW ((i:Int)+1)) >>= _) _ _ sh;refine ab (nY hx uE (by simp) ?_);have CC:(sh.heap.update it (gE.mapFields (·.setIfInBounds 1 (fW ((i:Int)+1))))).IsKeyIter it d (i+1) rows.size ep:=
  ⟨_,c_ _ hx (Il (ll uE _)),(gE.cls_mapFields ..).trans BI,by rw[ll uE];simp[fW]⟩
 refine ab (cx ?_);refine ab (Hd (s:={sh with heap:=sh.heap.update it (gE.mapFields (·.setIfInBounds 1 (fW ((i:Int)+1))))}) CC.typeIs ?_);show aG _ _ (pure rows[i].key) _ _ _;exact ah (ah ⟨_,rfl,ah (q _ CC (eM ..))⟩)
def a6H(hh:A.handled=p4)(hI:sh.heap.IsKeyIter it d i rows.size ep)(hm:sh.heap.RawDict d rows ep)(hi:rows.size<=i)
  (q:∀h',cf.ExtBut it sh.heap h'->Q p4 {sh with heap:=h'}):aG (aT prog w) A (k_ (.ref it)) Q E sh:=by
 obtain⟨x,hx,BI,uE⟩:=id hI;obtain⟨u,hu,_,pQ⟩:=id hm;unfold k_;refine ab (lV (cN (name:=dq "__next__") hI.typeIs fJ (cD fJ hI.typeIs ur ?_ (tu _))));refine ab (ah (ab (ab ?_)))
 first|refine ab (gH hI.typeIs (ah ?_))|refine ab (iO hI.typeIs (ah ?_))
 refine ab (wpAny_fieldsOf hx uE ?_);simp only[show vy "dict_keyiterator"=xn from by decide,bF,dw];show aG _ _ (if (be d==bb)=rp then _ else _) _ _ sh;rw[aI (show ¬ (be d==bb)=rp from bo)];refine ab (ah (ab (cK hu pQ ?_)));rw[aI (by simp)];refine ab (ah (ab (kB hu pQ ?_)));rw[aI (by simp)];refine ah ?_;simp only[show ¬ (i:Int)<0 from by lia,dw,bQ,gD hi];refine ab ?_
 first|refine ab (gH hI.typeIs (ah ?_))|refine ab (iO hI.typeIs (ah ?_))
 show aG _ _ (setField (.ref it) 0 .none >>= _) _ _ sh;refine ab (nY hx uE (by simp) ?_);show aG _ _ (newExc (.type "StopIteration") [] >>= _) _ _ _;refine ab ?_;simp only[newExc,newTuple];refine ab (eL ?_ (by size_fits));refine ab (m:=oG _ _) (wpAny_of_eq (a:=bb) (by first|rfl|(simp only[oG];rfl)) ?_);refine eL ?_ (by size_fits);simp only[raiseNew];refine ab (wpAny_handled ?_);rw[show A.in1.handled=p4 from hh];refine ab (ah (wpAny_throw ?_));refine ab (ix (b:=rp) (T:="StopIteration") ⟨_,aL _ rfl,rfl⟩ isSubtype_stop ?_);exact ah (q _ (((eM ..).extBut.push _).push _))
def b0v(hh:A.handled=p4)(gN:d≠it):Walks prog w A it [it,d] [it] rows.size (λi v=>∃e,rows[i]?=cz e/\v=e.key) (λi h=>h.IsKeyIter it d i rows.size ep/\h.RawDict d rows ep) where
 sub:=λb hb=>aF.mpr (.inl (ak.mp hb))
 frame:=λ_ _ _ st hk=>⟨st.1.at λo e=>hk it av o e,st.2.at λo e=>hk d (aw _ av) o e⟩
 item:=λi s Q E hi st q=>a6G st.1 st.2 hi λh' hI hs=>q _ h' s.toks ⟨rows[i],bt hi,rfl⟩ ⟨hI,st.2.at λo e=>hs.extBut d o gN e⟩ λb o hb e=>hs.extBut b o (λz=>hb (by rw[z];exact ak.mpr rfl)) e
 done:=λs Q E st q=>a6H hh st.1 st.2 (ay _) λh' he=>q h' s.toks λb o hb e=>he b o (λz=>hb (by rw[z];exact ak.mpr rfl)) e
 self:=λ_ _ _ _ st q=>wpAny_pyIter_keyiter st.1 q
def a8Z(h0:(d==df)=xn):W.KdlSrc prog w "dict" d d rows.size (λi v=>∃e,rows[i]?=cz e/\v=e.key) (λh=>h.RawDict d rows ep) where
 type:=λ_ hm=>hm.typeIs
 there:=λh hm=>let⟨_,hu,_⟩:=hm;⟨aM hu,aM hu⟩
 keep:=λ_ _ hm hk=>hm.at λo e=>hk d (.inl rfl) o e
 notList:=by decide
 notTuple:=by decide
 hint:=λ_ _ s _ hm q=>W.kdl_hint_dict (Heap.RawDict.typeIs (sh:=s) hm) q
 iter:=λ_ _ hh hm=>⟨_,_,(λ_ _ q=>a6F h0 hm q),b0v hh (let⟨_,hu,_⟩:=hm;bK (aM hu)),⟨⟨_,aL _ rfl,rfl,rfl⟩,hm.at λ_ e=>af _ e⟩⟩
end
end PySem
namespace VS
open PySem PyProof.Rows
def a5J:Bool->bR->Array bR->Nat->Nat->Nat->StateT dh yK (Option Nat):=sortPriv% PySem.Builtin.gallop
structure CmpS (prog:bA) (w:bX) (A:bL) (s:aq) (κ:eW) (O:KeyOrd) (ky:bR->O.α) (S:bR->Prop):Prop where
 lt:∀x y:bR,S x->S y->∀C:Bool->aq->Prop,C (O.blt (ky x) (ky y)) s->aG (aT prog w) A (keyLt' κ x.1 y.1) C (λ_ _=>False) s
section
variable {prog:bA}{w:bX}{A:bL}{E:aj->aq->Prop}{s:aq}{κ:eW}{O:KeyOrd}{ky:bR->O.α}{S:bR->Prop}{st:dh}
def a3f(H:CmpS prog w A s κ O ky S)(hk:kindOf st=κ)(hx:S x)(hy:S y)(h:Q (cz (O.blt (ky x) (ky y))) st):uu (aT prog w) A E s (lt' x y) Q st:=by
 rw[lt'_eq];refine aP (nz ?_);rw[hk];refine aP (wpS_lift (lV ?_));refine de (H.lt x y hx hy (λb s'=>b=O.blt (ky x) (ky y)/\s'=s) ⟨rfl,rfl⟩) (λb s' hb=>?_) λ_ _ e=>e.elim
 obtain⟨rfl,rfl⟩:=hb;exact⟨rfl,aX h⟩
def l8{arr:Array bR}(hi:i<arr.size)(h:Q arr[i] st):uu (aT prog w) A E s (elem' arr i) Q st:=by
 rw[elem'_eq,bt hi];exact aX h
def b2u(ky:bR->O.α)(S:bR->Prop)(arr:Array bR)(base n:Nat)(ka:Nat->O.α):Prop:=∀i,i<n->∃h:base+i<arr.size,ky arr[base+i]=ka i/\S arr[base+i]
def prG(left:Bool)(k:O.α)(ka:Nat->O.α)(i:Nat):Bool:=if left then O.blt (ka i) k else !O.blt k (ka i)
def N7(H:CmpS prog w A s κ O ky S)(hk:kindOf st=κ)(P:b2u ky S arr base n ka)(hS:S key)(hi:i<n)(h:Q (cz (prG left (ky key) ka i)) st) :
  uu (aT prog w) A E s (do let x <-elem' arr (base+i);if left then lt' x key else return (<-lt' key x).map (!·)) Q st:=by
 obtain⟨hb,e,hs⟩:=P i hi;refine aP (l8 hb ?_);unfold prG at h;cases left with
 |true=>exact a3f H hk hs hS (by rw[e];exact h)
 |false=>exact aP (a3f H hk hS hs (aX (by rw[e];exact h)))
def a3g(H:CmpS prog w A s κ O ky S)(hk:kindOf st=κ)(P:b2u ky S arr base n ka)(hS:S key)(hh:hint<n)(mono:∀i j,i<=j->j<n->prG left (ky key) ka j=rp->prG left (ky key) ka i=rp) 
  (q:∀k,k<=n->(∀i,i<k->prG left (ky key) ka i=rp)->(∀i,k<=i->i<n->prG left (ky key) ka i=xn)->Q (cz k) st):uu (aT prog w) A E s (a5J left key arr base n hint) Q st:=by
 have vq:∀i j,i<=j->j<n->prG left (ky key) ka i=xn->prG left (ky key) ka j=xn:=λi j iH hj hi=>by
  cases c:prG left (ky key) ka j with
  |false=>rfl
  |true=>rw[mono i j iH hj c]at hi;cases hi
 refine aP (N7 H hk P hS hh ?_);have xQ:∀f:Nat->(Option (Option Nat)×Nat×Nat)->StateT dh yK (ForInStep (Option (Option Nat)×Nat×Nat)),
   (∀x l r (Q':ForInStep (Option (Option Nat)×Nat×Nat)->dh->Prop),l≥r->Q' (.done (p4,l,r)) st->uu (aT prog w) A E s (f x (p4,l,r)) Q' st)->
   (∀x l r (Q':ForInStep (Option (Option Nat)×Nat×Nat)->dh->Prop),¬ l≥r->l+(r-l) / 2<n->(prG left (ky key) ka (l+(r-l) / 2)=rp->Q' (.yield (p4,l+(r-l) / 2+1,r)) st)->(prG left (ky key) ka (l+(r-l) / 2)=xn->Q' (.yield (p4,l,l+(r-l) / 2)) st)->uu (aT prog w) A E s (f x (p4,l,r)) Q' st)->
   ∀lo hi,lo<=hi->hi<=n->(∀i,i<lo->prG left (ky key) ka i=rp)->(∀i,hi<=i->i<n->prG left (ky key) ka i=xn)->
   uu (aT prog w) A E s (forIn [0:n] ((p4:Option (Option Nat)),lo,hi) f) (λc cF=>cF=st/\∃r,c=(p4,r,r)/\r<=n/\(∀i,i<r->prG left (ky key) ka i=rp)/\(∀i,r<=i->i<n->prG left (ky key) ka i=xn)) st:=by
  intro f f1 f2 lo hi h1 h2 h3 h4;refine dD (I:=λx c cF=>cF=st/\∃l r,c=(p4,l,r)/\l<=r/\r<=n/\r-l<=n-x/\(∀i,i<l->prG left (ky key) ka i=rp)/\(∀i,r<=i->i<n->prG left (ky key) ka i=xn)) ?step ?fin ⟨rfl,lo,hi,rfl,h1,h2,by lia,h3,h4⟩
  case fin=>
   rintro c cF ⟨rfl,l,r,rfl,g1,g2,g3,g4,g5⟩;have:l=r:=by lia
   subst this;exact⟨rfl,l,rfl,g2,g4,g5⟩
  case step=>
   rintro x c cF _ hx ⟨rfl,l,r,rfl,g1,g2,g3,g4,g5⟩;by_cases c:l≥r
   ·have:l=r:=by lia
    subst this;exact f1 x l l _ c ⟨rfl,l,rfl,g2,g4,g5⟩
   ·refine f2 x l r _ c (by lia) (λd=>?_) λd=>?_
    ·exact⟨rfl,_,_,rfl,by lia,g2,by lia,λi hi=>mono i _ (show i<=l+(r-l) / 2 by lia) (by lia) d,g5⟩
    ·exact⟨rfl,_,_,rfl,by lia,by lia,by lia,g4,λi hi hn=>vq _ i hi hn d⟩
 dsimp only
 cases d:prG left (ky key) ka hint with
 |true=>
  rw[aC rfl];refine aP (gd (dD (I:=λx c cF=>cF=st/\∃l o,c=(p4,l,o)/\l<o/\x+1<=o/\hint+l<n/\prG left (ky key) ka (hint+l)=rp)
   (Q:=λc cF=>cF=st/\∃l o,c=(p4,l,o)/\l<o/\hint+l<n/\prG left (ky key) ka (hint+l)=rp/\(hint+o<n->prG left (ky key) ka (hint+o)=xn)) ?step ?fin ⟨rfl,0,1,rfl,by lia,by lia,by lia,d⟩) ?post)
  case fin=>
   rintro c cF ⟨rfl,l,o,rfl,g1,g2,g3,g4⟩;exact⟨rfl,l,o,rfl,g1,g3,g4,λz=>by lia⟩
  case post=>
   rintro c cF ⟨rfl,l,o,rfl,g1,g2,g3,g4⟩
   dsimp only
   refine aP (gd (xQ _ (λx l r Q' c h=>?_) (λx l r Q' c hm ht hf=>?_) (hint+l+1) (hint+min o (n-hint)) (by lia) (by lia) (λi hi=>mono i (hint+l) (by lia) g2 g3) (λi hi hn=>(eS (hint+o) n).elim (λz=>vq (hint+o) i (by lia) hn (g4 z)) λz=>by lia)) λc cF ⟨e,r,e2,r1,r2,r3⟩=>?_)
   ·dsimp only;rw[aC c];exact aX h
   ·dsimp only
    rw[aI c];refine aP (N7 H hk P hS hm ?_)
    dsimp only
    cases d':prG left (ky key) ka (l+(r-l) / 2) with
    |true=>rw[aC rfl];exact aX (ht d')
    |false=>simp only[bF,dw];exact aX (hf d')
   ·subst e e2;exact aX (q r r1 r2 r3)
  case step=>
   rintro x c cF _ hx ⟨rfl,l,o,rfl,g1,g2,g3,g4⟩
   dsimp only
   by_cases c:o≥n-hint
   ·rw[aC c];exact aX ⟨rfl,l,o,rfl,g1,g3,g4,λz=>by lia⟩
   ·rw[aI c];refine aP (N7 H hk P hS (show hint+o<n by lia) ?_)
    dsimp only
    cases e:prG left (ky key) ka (hint+o) with
    |true=>
     simp only[fH,bF,dw];exact aX ⟨rfl,o,2*o+1,rfl,by lia,by lia,by lia,e⟩
    |false=>
     simp only[Bool.not_false,jt];exact aX ⟨rfl,l,o,rfl,g1,g3,g4,λ_=>e⟩
 |false=>
  simp only[bF,dw];refine aP (gd (dD (I:=λx c cF=>cF=st/\∃l o,c=(p4,l,o)/\l<o/\x+1<=o/\l<=hint/\prG left (ky key) ka (hint-l)=xn)
   (Q:=λc cF=>cF=st/\∃l o,c=(p4,l,o)/\l<o/\l<=hint/\prG left (ky key) ka (hint-l)=xn/\(o<=hint->prG left (ky key) ka (hint-o)=rp)) ?step ?fin ⟨rfl,0,1,rfl,by lia,by lia,by lia,d⟩) ?post)
  case fin=>
   rintro c cF ⟨rfl,l,o,rfl,g1,g2,g3,g4⟩;exact⟨rfl,l,o,rfl,g1,g3,g4,λz=>by lia⟩
  case post=>
   rintro c cF ⟨rfl,l,o,rfl,g1,g2,g3,g4⟩
   dsimp only
   refine aP (gd (xQ _ (λx l r Q' c h=>?_) (λx l r Q' c hm ht hf=>?_) (hint+1-min o (hint+1)) (hint-l) (by lia) (by lia) (λi hi=>(eS hint o).elim (λz=>by lia) λz=>mono i (hint-o) (by lia) (by lia) (g4 z)) (λi hi hn=>vq (hint-l) i (by lia) hn g3)) λc cF ⟨e,r,e2,r1,r2,r3⟩=>?_)
   ·dsimp only;rw[aC c];exact aX h
   ·dsimp only
    rw[aI c];refine aP (N7 H hk P hS hm ?_)
    dsimp only
    cases d':prG left (ky key) ka (l+(r-l) / 2) with
    |true=>rw[aC rfl];exact aX (ht d')
    |false=>simp only[bF,dw];exact aX (hf d')
   ·subst e e2;exact aX (q r r1 r2 r3)
  case step=>
   rintro x c cF _ hx ⟨rfl,l,o,rfl,g1,g2,g3,g4⟩
   dsimp only
   by_cases c:o≥hint+1
   ·rw[aC c];exact aX ⟨rfl,l,o,rfl,g1,g3,g4,λz=>by lia⟩
   ·rw[aI c];refine aP (N7 H hk P hS (show hint-o<n by lia) ?_)
    dsimp only
    cases e:prG left (ky key) ka (hint-o) with
    |true=>
     rw[aC rfl];exact aX ⟨rfl,l,o,rfl,g1,g3,g4,λ_=>e⟩
    |false=>
     simp only[bF,dw];exact aX ⟨rfl,o,2*o+1,rfl,by lia,by lia,by lia,e⟩
end
section
variable {O:KeyOrd}{ky:bR->O.α}
def UpA(ky:bR->O.α)(a:Array bR):Prop:=∀i j (hj:j<a.size) (h:i<=j),O.kle (ky (a[i]'(by lia))) (ky a[j])
structure MInv (ky:bR->O.α) (a b out:Array bR) (ia ib:Nat):Prop where
 la:ia<=a.size
 lb:ib<=b.size
 pm:out.toList.Perm (a.toList.take ia++b.toList.take ib)
 up:out.toList.Pairwise λx y=>O.kle (ky x) (ky y)
 ra:∀x∈out.toList,∀i (h:i<a.size),ia<=i->O.kle (ky x) (ky a[i])
 rb:∀x∈out.toList,∀i (h:i<b.size),ib<=i->O.kle (ky x) (ky b[i])
def take_snoc{α:Type}{l:List α}(h:i<l.length):l.take (i+1)=l.take i++[l[i]]:=(List.take_append_getElem h).symm
def MInv.stepA(M:MInv ky a b out ia ib)(ua:UpA ky a)(h:ia<a.size)(hb:∀j (hj:j<b.size),ib<=j->O.kle (ky a[ia]) (ky b[j])):MInv ky a b (out.push a[ia]) (ia+1) ib:=by
 refine⟨h,M.lb,?_,?_,λx hx i hi hh=>?_,λx hx j hj hh=>?_⟩
 ·rw[b_,take_snoc (by simpa using h),bg];refine (M.pm.append_right _).trans ?_;rw[bg];refine mf _ ?_;rw[bY];exact List.perm_append_comm
 ·rw[b_,f_];refine⟨M.up,eZ _ _,λx hx y hy=>?_⟩;rw[ak.mp hy];exact M.ra x hx ia h (ay _)
 ·rw[b_]at hx;rcases az.mp hx with z|z
  ·exact M.ra x z i hi (by lia)
  ·rw[ak.mp z];exact ua ia i hi (by lia)
 ·rw[b_]at hx;rcases az.mp hx with z|z
  ·exact M.rb x z j hj hh
  ·rw[ak.mp z];exact hb j hj hh
def MInv.stepB(M:MInv ky a b out ia ib)(ub:UpA ky b)(h:ib<b.size)(ha:∀i (hi:i<a.size),ia<=i->O.kle (ky b[ib]) (ky a[i])):MInv ky a b (out.push b[ib]) ia (ib+1):=by
 refine⟨M.la,h,?_,?_,λx hx i hi hh=>?_,λx hx j hj hh=>?_⟩
 ·rw[b_,take_snoc (l:=b.toList) (by simpa using h),<-bg,bY];exact M.pm.append_right _
 ·rw[b_,f_];refine⟨M.up,eZ _ _,λx hx y hy=>?_⟩;rw[ak.mp hy];exact M.rb x hx ib h (ay _)
 ·rw[b_]at hx;rcases az.mp hx with z|z
  ·exact M.ra x z i hi hh
  ·rw[ak.mp z];exact ha i hi hh
 ·rw[b_]at hx;rcases az.mp hx with z|z
  ·exact M.rb x z j hj (by lia)
  ·rw[ak.mp z];exact ub ib j hj (by lia)
def a0L{a out:Array bR}(h:i+k<a.size):(out++a.extract i (i+k)).push (a[i+k]'h)=out++a.extract i (i+(k+1)):=by
 rw[pO,kz]
 congr 1;apply iF;rw[nh,gU,gU];simp only[kG];rw[show i+k-i=k by lia,show i+(k+1)-i=k+1 by lia,take_snoc (by rw[hJ,aD];lia),Dd,bY]
theorem MInv.manyA(ua:UpA ky a):∀(k:Nat) {out:Array bR},MInv ky a b out ia ib->ia+k<=a.size->(∀i (hi:i<a.size),ia<=i->i<ia+k->∀j (hj:j<b.size),ib<=j->O.kle (ky a[i]) (ky b[j]))->MInv ky a b (out++a.extract ia (ia+k)) (ia+k) ib
 |0,out,M,_,_=>by
  have e:a.extract ia (ia+0)=#[]:=by apply iF;simp
  rw[e,iG];exact M
 |k+1,out,M,h,hb=>by
  have ih:=MInv.manyA ua k M (by lia) λi hi h1 h2=>hb i hi h1 (by lia)
  have:=ih.stepA ua (show ia+k<a.size by lia) λj hj h1=>hb (ia+k) (by lia) (by lia) (by lia) j hj h1
  rw[a0L (by lia)]at this;exact this
theorem MInv.manyB(ub:UpA ky b):∀(k:Nat) {out:Array bR},MInv ky a b out ia ib->ib+k<=b.size->(∀j (hj:j<b.size),ib<=j->j<ib+k->∀i (hi:i<a.size),ia<=i->O.kle (ky b[j]) (ky a[i]))->MInv ky a b (out++b.extract ib (ib+k)) ia (ib+k)
 |0,out,M,_,_=>by
  have e:b.extract ib (ib+0)=#[]:=by apply iF;simp
  rw[e,iG];exact M
 |k+1,out,M,h,hb=>by
  have ih:=MInv.manyB ub k M (by lia) λi hi h1 h2=>hb i hi h1 (by lia)
  have:=ih.stepB ub (show ib+k<b.size by lia) λj hj h1=>hb (ib+k) (by lia) (by lia) (by lia) j hj h1
  rw[a0L (by lia)]at this;exact this
def Q9(ky:bR->O.α)(a b out:Array bR):Prop:=out.toList.Perm (a.toList++b.toList)/\out.toList.Pairwise λx y=>O.kle (ky x) (ky y)
def MInv.all(M:MInv ky a b out a.size b.size):Q9 ky a b out:=by
 refine⟨?_,M.up⟩;have:=M.pm
 rwa[iX (by simp),iX (by simp)]at this
def MInv.doneB(M:MInv ky a b out ia b.size)(ua:UpA ky a):Q9 ky a b (out++a.extract ia a.size++b.extract b.size b.size):=by
 have:=MInv.manyA ua (a.size-ia) M (by have:=M.la;lia) λi hi _ _ j hj h=>by lia
 rw[show ia+(a.size-ia)=a.size by have:=M.la;lia]at this;have e:b.extract b.size b.size=#[]:=by simp
 rw[e,iG];exact this.all
def MInv.doneA(M:MInv ky a b out a.size ib)(ub:UpA ky b):Q9 ky a b (out++a.extract a.size a.size++b.extract ib b.size):=by
 have:=MInv.manyB ub (b.size-ib) M (by have:=M.lb;lia) λi hi _ _ j hj h=>by lia
 rw[show ib+(b.size-ib)=b.size by have:=M.lb;lia]at this;have e:a.extract a.size a.size=#[]:=by simp
 rw[e,iG];exact this.all
def MInv.last(M:MInv ky a b out ia ib)(ua:UpA ky a)(ub:UpA ky b)(h:ia+1=a.size)(hl:∀j (hj:j<b.size),O.kle (ky b[j]) (ky (a[ia]'(by lia)))):Q9 ky a b (out++b.extract ib b.size++a.extract ia a.size):=by
 have M1:=MInv.manyB ub (b.size-ib) M (by have:=M.lb;lia) λj hj _ _ i hi h2=>by
  have:i=ia:=by lia
  subst this;exact hl j hj
 rw[show ib+(b.size-ib)=b.size by have:=M.lb;lia]at M1;have M2:=MInv.manyA ua 1 M1 (by lia) λi hi _ _ j hj h2=>by lia
 rw[h]at M2;exact M2.all
end
def b2v:Array bR->Array bR->StateT dh yK (Array bR):=sortPriv% PySem.Builtin.mergeLo
def a4a:Nat->StateT dh yK Unit:=sortPriv% PySem.Builtin.setMinGallop
section
variable {prog:bA}{w:bX}{A:bL}{E:aj->aq->Prop}{s:aq}{κ:eW}{O:KeyOrd}{ky:bR->O.α}{S:bR->Prop}{st:dh}
def SameG(st cF:dh):Prop:=kindOf cF=kindOf st/\aY cF=aY st/\cy cF=cy st/\gv cF=gv st
def SameG.refl(st:dh):SameG st st:=⟨rfl,rfl,rfl,rfl⟩
theorem SameG.trans(x:SameG a b)(y:SameG b c):SameG a c:=⟨y.1.trans x.1,y.2.1.trans x.2.1,y.2.2.1.trans x.2.2.1,y.2.2.2.trans x.2.2.2⟩
def a0M(h:∀cF,SameG st cF->Q () cF):uu (aT prog w) A E s (a4a g) Q st:=by
 exact mR (h _ ⟨rfl,rfl,rfl,rfl⟩)
def R1(h:Q () st):uu (aT prog w) A E s (rule x) Q st:=wpS_lift (gw ⟨rfl,h⟩)
def k7{β:Type}{c:Prop}{dc:Decidable c}{x y:StateT dh yK β}{Q:β->dh->Prop}(h:c->uu (aT prog w) A E s x Q st)(g:¬ c->uu (aT prog w) A E s y Q st):uu (aT prog w) A E s (ite c x y) Q st:=by
 by_cases d:c
 ·rw[aC d];exact h d
 ·rw[aI d];exact g d
def y8{i j:Nat}(h:¬ (i==j)=rp):i≠j:=λe=>h (by rw[e];exact gY j)
def R6{γ δ:Sort _}{β:Type}{R:γ->δ->Prop}{F:γ->δ->StateT dh yK β}{x:StateT dh yK β}{Q:β->dh->Prop}(tl:∀g d,R g d->uu (aT prog w) A E s (F g d) Q st)(mn:(∀g d,R g d->uu (aT prog w) A E s (F g d) Q st)->uu (aT prog w) A E s x Q st):uu (aT prog w) A E s x Q st:=mn tl
def a5K:(!O.blt k x)=rp↔O.kle x k:=by unfold KeyOrd.kle;cases O.blt k x<;>simp
def UpR(ky:bR->O.α)(arr:Array bR)(base n:Nat):Prop:=∀i j (hj:j<arr.size) (h:i<=j),base<=i->j<base+n->O.kle (ky (arr[i]'(by lia))) (ky arr[j])
def UpA.part(u:UpA ky arr)(base n:Nat):UpR ky arr base n:=λi j hj h _ _=>u i j hj h
def kyD(ky:bR->O.α)(arr:Array bR)(base:Nat)(d:O.α)(i:Nat):O.α:=(arr[base+i]?.map ky).getD d
def a0l{arr:Array bR}(h:base+i<arr.size):kyD ky arr base d i=ky arr[base+i]:=by unfold kyD;rw[bt h];rfl
def part_of{arr:Array bR}(hn:base+n<=arr.size)(qS:∀i (h:i<arr.size),base<=i->i<base+n->S arr[i])(d:O.α):b2u ky S arr base n (kyD ky arr base d):=λi hi=>⟨by lia,(a0l (by lia)).symm,qS _ _ (by lia) (by lia)⟩
def a3h(H:CmpS prog w A s κ O ky S)(hk:kindOf st=κ)(u:UpR ky arr base n)(qS:∀i (h:i<arr.size),base<=i->i<base+n->S arr[i])(hS:S key)(hn:base+n<=arr.size)(hh:hint<n) 
  (q:∀k,k<=n->(∀i (h:i<arr.size),base<=i->i<base+k->O.kle (ky arr[i]) (ky key))->(∀i (h:i<arr.size),base+k<=i->i<base+n->O.klt (ky key) (ky arr[i]))->Q (cz k) st):uu (aT prog w) A E s (a5J xn key arr base n hint) Q st:=by
 have at_:∀i (h:i<arr.size),base<=i->kyD ky arr base (ky key) (i-base)=ky arr[i]:=λi h hb=>by
  have e:base+(i-base)=i:=by lia
  rw[a0l (by lia)];simp only[e]
 refine a3g H hk (part_of hn qS (ky key)) hS hh (λi j iH hj h=>?_) λk k1 k2 k3=>q k k1 (λi h hb hi=>?_) λi h hb hi=>?_
 ·have h':=a5K.mp h;refine a5K.mpr (cX ?_ h');rw[a0l (show base+i<arr.size by lia),a0l (show base+j<arr.size by lia)];exact u (base+i) (base+j) (by lia) (by lia) (by lia) (by lia)
 ·have:=a5K.mp (k2 (i-base) (by lia))
  rwa[at_ i h hb]at this
 ·have:=k3 (i-base) (by lia) (by lia);have h2:(!O.blt (ky key) (kyD ky arr base (ky key) (i-base)))=xn:=this;rw[at_ i h (by lia)]at h2;show O.blt _ _=rp;simpa using h2
def a3i(H:CmpS prog w A s κ O ky S)(hk:kindOf st=κ)(u:UpR ky arr base n)(qS:∀i (h:i<arr.size),base<=i->i<base+n->S arr[i])(hS:S key)(hn:base+n<=arr.size)(hh:hint<n) 
  (q:∀k,k<=n->(∀i (h:i<arr.size),base<=i->i<base+k->O.klt (ky arr[i]) (ky key))->(∀i (h:i<arr.size),base+k<=i->i<base+n->O.kle (ky key) (ky arr[i]))->Q (cz k) st):uu (aT prog w) A E s (a5J rp key arr base n hint) Q st:=by
 have at_:∀i (h:i<arr.size),base<=i->kyD ky arr base (ky key) (i-base)=ky arr[i]:=λi h hb=>by
  have e:base+(i-base)=i:=by lia
  rw[a0l (by lia)];simp only[e]
 refine a3g H hk (part_of hn qS (ky key)) hS hh (λi j iH hj h=>?_) λk k1 k2 k3=>q k k1 (λi h hb hi=>?_) λi h hb hi=>?_
 ·have h':O.klt _ _:=h;refine (KeyOrd.klt_of_kle_of_klt ?_ h':O.klt _ _);rw[a0l (show base+i<arr.size by lia),a0l (show base+j<arr.size by lia)];exact u (base+i) (base+j) (by lia) (by lia) (by lia) (by lia)
 ·have:O.blt _ _=rp:=k2 (i-base) (by lia);rw[at_ i h hb]at this;exact this
 ·have:O.blt _ _=xn:=k3 (i-base) (by lia) (by lia);rw[at_ i h (by lia)]at this;exact this
def a6I(H:CmpS prog w A s κ O ky S)(hk:kindOf st=κ)(ua:UpA ky a)(ub:UpA ky b)(sa:∀i (h:i<a.size),S a[i])(sb:∀i (h:i<b.size),S b[i])(a0:0<a.size)(b0:0<b.size)(hf:O.klt (ky b[0]) (ky a[0]))(hl:∀j (hj:j<b.size),O.klt (ky b[j]) (ky (a[a.size-1]'(by lia))))
  (q:∀out cF,SameG st cF->Q9 ky a b out->Q out cF):uu (aT prog w) A E s (b2v a b) Q st:=by
 have M0:MInv ky a b #[b[0]] 0 1:=by
  have M:MInv ky a b #[] 0 0:=⟨cj _,cj _,by simp,by simp,λx hx=>by simp at hx,λx hx=>by simp at hx⟩;have:=M.stepB ub b0 λi hi _=>cH (fK hf (ua 0 i hi (by lia)))
  simpa using this
 have nF:∀{out:Array bR} {ia ib:Nat},MInv ky a b out ia ib->ia+1=a.size->Q9 ky a b (out++b.extract ib b.size++a.extract ia a.size):=λ{out ia ib} M h=>M.last ua ub h λj hj=>by
  have:=hl j hj;have e:a.size-1=ia:=by lia
  simp only[e]at this;exact cH this
 refine aP (R1 ?_);refine aP (l8 b0 ?_);refine k7 (λc1=>?_) λc1=>?_
 ·have e:1=b.size:=eq_of_beq c1;refine aX (q _ _ (SameG.refl _) ?_);have:=M0;rw[e]at this ⊢;exact this.doneB ua
 have GO:1≠b.size:=y8 c1;refine k7 (λc2=>aX (q _ _ (SameG.refl _) (nF M0 (eq_of_beq c2)))) λc2=>?_
 have GN:0+1≠a.size:=y8 c2;refine aP (nz ?_);refine aP (gd (dD (I:=λx c cF=>SameG st cF/\∃out ia ib mg,c=(p4,out,ia,ib,mg)/\MInv ky a b out ia ib/\ia+1<a.size/\ib<b.size/\x+1<=ia+ib)
  (Q:=λc cF=>SameG st cF/\∃r z,c=(cz r,z)/\Q9 ky a b r) ?ostep ?ofin ⟨SameG.refl _,#[b[0]],0,1,_,rfl,M0,by lia,by lia,by lia⟩) ?opost)
 case opost=>
  rintro c cF ⟨hs,r,z,rfl,hm⟩;exact aX (q r cF hs hm)
 case ofin=>
  rintro c cF ⟨hs,out,ia,ib,mg,rfl,M,h1,h2,h3⟩;lia
 case ostep=>
  rintro x c cF _ hx ⟨hs,out,ia,ib,mg,rfl,M,h1,h2,h3⟩;refine aP (gd (dD (I:=λx' c fL=>SameG st fL/\∃jF mj mB ac bc,c=(p4,jF,mj,mB,ac,bc)/\MInv ky a b jF mj mB/\mj+1<a.size/\mB<b.size/\mj+mB=ia+ib+x')
   (Q:=λc fL=>SameG st fL/\((∃r z,c=(cz r,z)/\Q9 ky a b r)\/∃jF mj mB ac bc,c=(p4,jF,mj,mB,ac,bc)/\MInv ky a b jF mj mB/\mj+1<a.size/\mB<b.size/\ia+ib+1<=mj+mB)) ?istep ?ifin ⟨hs,out,ia,ib,_,_,rfl,M,h1,h2,by lia⟩) ?ipost)
  case ifin=>
   rintro c fL ⟨iU,jF,mj,mB,ac,bc,rfl,M',g1,g2,g3⟩;exact⟨iU,.inr ⟨_,_,_,_,_,rfl,M',g1,g2,by lia⟩⟩
  case istep=>
   rintro x' c fL _ sr ⟨iU,jF,mj,mB,ac,bc,rfl,M',g1,g2,g3⟩;have yo:mj<a.size:=by lia
   refine aP (l8 g2 (aP (l8 yo ?_)));refine aP (a3f H (iU.1.trans hk) (sb _ g2) (sa _ yo) (k7 (λc=>?_) λc=>?_))
   ·refine aP (l8 g2 (k7 (λd=>?_) λd=>?_))
    ·have M2:=M'.stepB ub g2 λi hi h=>cH (fK c (ua mj i hi h))
     have e:mB+1=b.size:=eq_of_beq d;refine aX ⟨iU,.inl ⟨_,_,rfl,?_⟩⟩;rw[e]at M2 ⊢;exact M2.doneB ua
    ·have M2:=M'.stepB ub g2 λi hi h=>cH (fK c (ua mj i hi h))
     have e:mB+1≠b.size:=y8 d;exact k7 (λ_=>aX ⟨iU,.inr ⟨_,mj,mB+1,_,_,rfl,M2,g1,by lia,by lia⟩⟩) λ_=>aX ⟨iU,_,mj,mB+1,_,_,rfl,M2,g1,by lia,by lia⟩
   ·have c:=gc.mpr c;have M2:=M'.stepA ua yo λj hj h=>cX (show O.kle (ky a[mj]) (ky b[mB]) from c) (ub mB j hj h)
    refine aP (l8 yo (k7 (λd=>aX ⟨iU,.inl ⟨_,_,rfl,nF M2 (eq_of_beq d)⟩⟩) λd=>?_));have e:mj+1+1≠a.size:=y8 d;exact k7 (λ_=>aX ⟨iU,.inr ⟨_,mj+1,mB,_,_,rfl,M2,by lia,g2,by lia⟩⟩) λ_=>aX ⟨iU,_,mj+1,mB,_,_,rfl,M2,by lia,g2,by lia⟩
  case ipost=>
   rintro c fL ⟨iU,⟨r,z,rfl,hm⟩|⟨jF,mj,mB,ac,bc,rfl,M',g1,g2,g3⟩⟩
   ·exact aX ⟨iU,r,_,rfl,hm⟩
   refine aP (R1 ?_);refine aP (gd (dD (I:=λ_ c jS=>SameG st jS/\∃o2 i2 j2 mg ac bc,c=(p4,o2,i2,j2,mg,ac,bc)/\MInv ky a b o2 i2 j2/\i2+1<a.size/\j2<b.size/\mj+mB<=i2+j2)
    (Q:=λc jS=>SameG st jS/\((∃r z,c=(cz r,z)/\Q9 ky a b r)\/∃o2 i2 j2 mg ac bc,c=(p4,o2,i2,j2,mg,ac,bc)/\MInv ky a b o2 i2 j2/\i2+1<a.size/\j2<b.size/\mj+mB<=i2+j2)) ?gstep ?gfin ⟨iU,jF,mj,mB,_,_,_,rfl,M',g1,g2,ay _⟩) ?gpost)
   case gfin=>
    rintro c jS ⟨ou,x⟩;exact⟨ou,.inr x⟩
   case gpost=>
    rintro c jS ⟨ou,⟨r,z,rfl,hm⟩|⟨o2,i2,j2,uB,AR,AN,rfl,M2,k1,k2,k3⟩⟩
    ·exact aX ⟨ou,r,_,rfl,hm⟩
    refine aP (a0M λlz uJ=>aX ?_);exact⟨ou.trans uJ,o2,i2,j2,_,rfl,M2,k1,k2,by lia⟩
   case gstep=>
    rintro y c jS _ hy ⟨ou,o2,i2,j2,uB,AR,AN,rfl,M2,k1,k2,k3⟩
    dsimp only
    refine' R6 (γ:=Nat) (δ:=True) (R:=λ_ _=>True) (λmg tt _=>?tl0) λtl=>?mn0
    case mn0=>
     have u:=trivial;refine k7 (λ_=>?_) λ_=>?_
     ·generalize uB-1=g;exact tl g u u
     ·exact tl uB u u
    refine aP (a0M λlz uJ=>?_);have nH:=ou.trans uJ;refine aP (l8 k2 ?_);refine aP (a3h H (nH.1.trans hk) (ua.part _ _) (λi h _ _=>sa i h) (sb _ k2) (by lia) (by lia) λk q1 q2 q3=>?_);refine' R6 (R:=λi3 o3=>MInv ky a b o3 i3 j2/\i3=i2+k/\i3+1<a.size) (λi3 o3 h3=>?tl1) λtl=>?mn1
    case mn1=>
     refine k7 (λsE=>?_) λsE=>?_
     ·have M3:=MInv.manyA ua k M2 (by lia) λi hi h1 h2 j hj h3=>cX (q2 i hi h1 h2) (ub j2 j hj h3)
      refine k7 (λd=>aX ⟨nH,.inl ⟨_,_,rfl,nF M3 (eq_of_beq d)⟩⟩) λd=>k7 (λd2=>?_) λd2=>?_
      ·have e2:i2+k=a.size:=eq_of_beq d2;refine aX ⟨nH,.inl ⟨_,_,rfl,?_⟩⟩;have CZ:=M3;rw[e2]at CZ ⊢;exact CZ.doneA ub
      have e1:=y8 d;have e2:=y8 d2;generalize o2++a.extract i2 (i2+k)=o3 at M3 ⊢;obtain⟨i3,ei⟩:∃i3,i3=i2+k:=⟨_,rfl⟩;rw[<-ei]at M3 ⊢;exact tl i3 o3 ⟨M3,ei,by lia⟩
     ·exact tl i2 o2 ⟨M2,by lia,k1⟩
    obtain⟨M3,ei,ri⟩:=h3;have ri:i3<a.size:=by lia
    refine aP (l8 k2 ?_);have M4:=M3.stepB ub k2 λi hi h=>cH (q3 i hi (by lia) (by lia))
    refine k7 (λd3=>?_) λd3=>?_
    ·have e3:j2+1=b.size:=eq_of_beq d3;refine aX ⟨nH,.inl ⟨_,_,rfl,?_⟩⟩;rw[e3]at M4 ⊢;exact M4.doneB ua
    have e3:=y8 d3;refine aP (l8 ri ?_);refine aP (a3i H (nH.1.trans hk) (ub.part _ _) (λi h _ _=>sb i h) (sa _ ri) (by lia) (by lia) λk' r1 r2 r3=>?_);refine' R6 (R:=λj3 o3=>MInv ky a b o3 i3 j3/\j3=j2+1+k'/\j3<b.size) (λj3 o3 h3=>?tl2) λtl=>?mn2
    case mn2=>
     refine k7 (λAc=>?_) λAc=>?_
     ·have M5:=MInv.manyB ub k' M4 (by lia) λj hj h1 h2 i hi h3=>cH (fK (r2 j hj h1 h2) (ua i3 i hi h3))
      refine k7 (λd4=>?_) λd4=>?_
      ·have e4:j2+1+k'=b.size:=eq_of_beq d4;refine aX ⟨nH,.inl ⟨_,_,rfl,?_⟩⟩;rw[e4]at M5 ⊢;exact M5.doneB ua
      have e4:=y8 d4;generalize o3.push b[j2]++b.extract (j2+1) (j2+1+k')=o4 at M5 ⊢;obtain⟨j3,ej⟩:∃j3,j3=j2+1+k':=⟨_,rfl⟩;rw[<-ej]at M5 ⊢;exact tl j3 o4 ⟨M5,ej,by lia⟩
     ·generalize o3.push b[j2]=o4 at M4 ⊢;obtain⟨j3,ej⟩:∃j3,j3=j2+1:=⟨_,rfl⟩;rw[<-ej]at M4 ⊢;exact tl j3 o4 ⟨M4,by lia,by lia⟩
    obtain⟨M5,ej,HI⟩:=h3;have M6:=M5.stepA ua ri λj hj h=>r3 j hj (by lia) (by lia)
    refine aP (l8 ri (k7 (λd=>aX ⟨nH,.inl ⟨_,_,rfl,nF M6 (eq_of_beq d)⟩⟩) λd=>?_));have e5:=y8 d;exact k7 (λ_=>aX ⟨nH,.inr ⟨_,_,_,_,_,_,rfl,M6,by lia,by lia,by lia⟩⟩) λ_=>aX ⟨nH,_,_,_,_,_,_,rfl,M6,by lia,by lia,by lia⟩
end
section
variable {O:KeyOrd}{ky:bR->O.α}
structure NInv (ky:bR->O.α) (a b out:Array bR) (na nb:Nat):Prop where
 la:na<=a.size
 lb:nb<=b.size
 pm:out.toList.Perm (a.toList.drop na++b.toList.drop nb)
 up:out.toList.Pairwise λx y=>O.kle (ky y) (ky x)
 ra:∀x∈out.toList,∀i (h:i<a.size),i<na->O.kle (ky a[i]) (ky x)
 rb:∀x∈out.toList,∀i (h:i<b.size),i<nb->O.kle (ky b[i]) (ky x)
def a1x{α:Type}{l:List α}(h:i<l.length):l.drop i=l[i]::l.drop (i+1):=cB h
def NInv.stepA(M:NInv ky a b out (na+1) nb)(ua:UpA ky a)(h:na<a.size)(hb:∀j (hj:j<b.size),j<nb->O.kle (ky b[j]) (ky a[na])):NInv ky a b (out.push a[na]) na nb:=by
 refine⟨by lia,M.lb,?_,?_,λx hx i hi hh=>?_,λx hx j hj hh=>?_⟩
 ·rw[b_,a1x (l:=a.toList) (by simpa using h),bY,bw];exact (rO _ _).trans (M.pm.cons _)
 ·rw[b_,f_];refine⟨M.up,eZ _ _,λx hx y hy=>?_⟩;rw[ak.mp hy];exact M.ra x hx na h (by lia)
 ·rw[b_]at hx;rcases az.mp hx with z|z
  ·exact M.ra x z i hi (by lia)
  ·rw[ak.mp z];exact ua i na h (by lia)
 ·rw[b_]at hx;rcases az.mp hx with z|z
  ·exact M.rb x z j hj hh
  ·rw[ak.mp z];exact hb j hj hh
def NInv.stepB(M:NInv ky a b out na (nb+1))(ub:UpA ky b)(h:nb<b.size)(ha:∀i (hi:i<a.size),i<na->O.kle (ky a[i]) (ky b[nb])):NInv ky a b (out.push b[nb]) na nb:=by
 refine⟨M.la,by lia,?_,?_,λx hx i hi hh=>?_,λx hx j hj hh=>?_⟩
 ·rw[b_,a1x (l:=b.toList) (by simpa using h),bY];refine (rO _ _).trans ((M.pm.cons _).trans ?_);exact List.perm_middle.symm
 ·rw[b_,f_];refine⟨M.up,eZ _ _,λx hx y hy=>?_⟩;rw[ak.mp hy];exact M.rb x hx nb h (by lia)
 ·rw[b_]at hx;rcases az.mp hx with z|z
  ·exact M.ra x z i hi hh
  ·rw[ak.mp z];exact ha i hi hh
 ·rw[b_]at hx;rcases az.mp hx with z|z
  ·exact M.rb x z j hj (by lia)
  ·rw[ak.mp z];exact ub j nb h (by lia)
def a6J{a out:Array bR}(h:i<a.size)(hn:i<n)(yg:n<=a.size):(out++(a.extract (i+1) n).reverse).push a[i]=out++(a.extract i n).reverse:=by
 rw[pO,kz]
 congr 1;apply iF;simp only[nh,mP,gU,kG];rw[show n-i=(n-(i+1))+1 by lia,a1x (l:=a.toList) (i:=i) (by simpa using h),List.take_succ_cons,kJ,bY]
theorem NInv.manyA(ua:UpA ky a):∀(k:Nat) {out:Array bR},NInv ky a b out na nb->k<=na->(∀i (hi:i<a.size),na-k<=i->i<na->∀j (hj:j<b.size),j<nb->O.kle (ky b[j]) (ky a[i]))->NInv ky a b (out++(a.extract (na-k) na).reverse) (na-k) nb
 |0,out,M,_,_=>by
  have e:a.extract (na-0) na=#[]:=by apply iF;simp
  rw[e];simpa using M
 |k+1,out,M,h,hb=>by
  have ih:=NInv.manyA ua k M (by lia) λi hi h1 h2=>hb i hi (by lia) h2
  have nJ:=M.la;rw[show na-k=(na-(k+1))+1 by lia]at ih;have:=ih.stepA ua (show na-(k+1)<a.size by lia) λj hj h1=>hb (na-(k+1)) (by lia) (ay _) (by lia) j hj h1
  rw[a6J (by lia) (by lia) nJ]at this;exact this
theorem NInv.manyB(ub:UpA ky b):∀(k:Nat) {out:Array bR},NInv ky a b out na nb->k<=nb->(∀j (hj:j<b.size),nb-k<=j->j<nb->∀i (hi:i<a.size),i<na->O.kle (ky a[i]) (ky b[j]))->NInv ky a b (out++(b.extract (nb-k) nb).reverse) na (nb-k)
 |0,out,M,_,_=>by
  have e:b.extract (nb-0) nb=#[]:=by apply iF;simp
  rw[e];simpa using M
 |k+1,out,M,h,hb=>by
  have ih:=NInv.manyB ub k M (by lia) λi hi h1 h2=>hb i hi (by lia) h2
  have tQ:=M.lb;rw[show nb-k=(nb-(k+1))+1 by lia]at ih;have:=ih.stepB ub (show nb-(k+1)<b.size by lia) λj hj h1=>hb (nb-(k+1)) (by lia) (ay _) (by lia) j hj h1
  rw[a6J (by lia) (by lia) tQ]at this;exact this
def NInv.all(M:NInv ky a b out 0 0):Q9 ky a b out.reverse:=by
 refine⟨?_,?_⟩
 ·rw[mP];refine (List.reverse_perm _).trans ?_;simpa using M.pm
 ·rw[mP,vO];exact M.up
def a2z{out c:Array bR}:(out++c.reverse).reverse=c++out.reverse:=by apply iF;simp
def NInv.doneA(M:NInv ky a b out 0 nb)(ub:UpA ky b):Q9 ky a b (a.extract 0 0++b.extract 0 nb++out.reverse):=by
 have:=(NInv.manyB ub nb M (ay _) λj hj _ _ i hi h=>by lia);rw[jY]at this;have e:a.extract 0 0=#[]:=by apply iF;simp
 have:=this.all;rw[a2z]at this;rw[e,Array.empty_append];exact this
def NInv.doneB(M:NInv ky a b out na 0)(ua:UpA ky a):Q9 ky a b (a.extract 0 na++b.extract 0 0++out.reverse):=by
 have:=(NInv.manyA ua na M (ay _) λj hj _ _ i hi h=>by lia);rw[jY]at this;have e:b.extract 0 0=#[]:=by apply iF;simp
 have:=this.all;rw[a2z]at this;rw[e,iG];exact this
def NInv.first(M:NInv ky a b out na 1)(ua:UpA ky a)(ub:UpA ky b)(b0:0<b.size)(hf:∀i (hi:i<a.size),O.kle (ky b[0]) (ky a[i])):Q9 ky a b (b.extract 0 1++a.extract 0 na++out.reverse):=by
 have M1:=NInv.manyA ua na M (ay _) λi hi _ _ j hj h=>by
  have:j=0:=by lia
  subst this;exact hf i hi
 rw[jY]at M1;have M2:=(NInv.manyB ub 1 M1 (ay _) λj hj _ _ i hi h=>by lia);rw[jY]at M2;have:=M2.all;rw[a2z,a2z,<-kz]at this;exact this
end
def b2w:Array bR->Array bR->StateT dh yK (Array bR):=sortPriv% PySem.Builtin.mergeHi
section
variable {prog:bA}{w:bX}{A:bL}{E:aj->aq->Prop}{s:aq}{κ:eW}{O:KeyOrd}{ky:bR->O.α}{S:bR->Prop}{st:dh}
def a6K(H:CmpS prog w A s κ O ky S)(hk:kindOf st=κ)(ua:UpA ky a)(ub:UpA ky b)(sa:∀i (h:i<a.size),S a[i])(sb:∀i (h:i<b.size),S b[i])(a0:0<a.size)(b0:0<b.size)(hf:O.klt (ky b[0]) (ky a[0]))(hl:∀j (hj:j<b.size),O.klt (ky b[j]) (ky (a[a.size-1]'(by lia))))
  (q:∀out cF,SameG st cF->Q9 ky a b out->Q out cF):uu (aT prog w) A E s (b2w a b) Q st:=by
 have M0:NInv ky a b #[a[a.size-1]'(by lia)] (a.size-1) b.size:=by
  have M:NInv ky a b #[] (a.size-1+1) b.size:=⟨by lia,ay _,by simp;lia,by simp,λx hx=>by simp at hx,λx hx=>by simp at hx⟩;have:=M.stepA ua (show a.size-1<a.size by lia) λj hj _=>cH (hl j hj)
  simpa using this
 have pG:∀i (hi:i<a.size),O.kle (ky b[0]) (ky a[i]):=λi hi=>cH (fK hf (ua 0 i hi (by lia)))
 have mr:∀{out:Array bR} {na nb:Nat},NInv ky a b out na nb->nb=1->Q9 ky a b (b.extract 0 nb++a.extract 0 na++out.reverse):=λ{out na nb} M h=>by subst h;exact M.first ua ub b0 pG
 have nL:∀{out:Array bR} {na nb:Nat},NInv ky a b out na nb->na=0->Q9 ky a b (a.extract 0 na++b.extract 0 nb++out.reverse):=λ{out na nb} M h=>by subst h;exact M.doneA ub
 refine aP (R1 ?_);refine aP (l8 (show a.size-1<a.size by lia) ?_);refine k7 (λc1=>aX (q _ _ (SameG.refl _) (nL M0 (eq_of_beq c1)))) λc1=>k7 (λc2=>aX (q _ _ (SameG.refl _) (mr M0 (eq_of_beq c2)))) λc2=>?_
 have GO:a.size-1≠0:=y8 c1;have GN:b.size≠1:=y8 c2;refine aP (nz ?_);refine aP (gd (dD (I:=λx c cF=>SameG st cF/\∃na nb out mg,c=(p4,na,nb,out,mg)/\NInv ky a b out na nb/\0<na/\1<nb/\na+nb+x+1<=a.size+b.size)
  (Q:=λc cF=>SameG st cF/\∃r z,c=(cz r,z)/\Q9 ky a b r) ?ostep ?ofin ⟨SameG.refl _,a.size-1,b.size,_,_,rfl,M0,by lia,by lia,by lia⟩) ?opost)
 case opost=>
  rintro c cF ⟨hs,r,z,rfl,hm⟩;exact aX (q r cF hs hm)
 case ofin=>
  rintro c cF ⟨hs,na,nb,out,mg,rfl,M,h1,h2,h3⟩;lia
 case ostep=>
  rintro x c cF _ hx ⟨hs,na,nb,out,mg,rfl,M,h1,h2,h3⟩;have nJ:=M.la;have tQ:=M.lb;refine aP (gd (dD (I:=λx' c fL=>SameG st fL/\∃lK lJ jF ac bc,c=(p4,lK,lJ,jF,ac,bc)/\NInv ky a b jF lK lJ/\0<lK/\1<lJ/\lK+lJ+x'=na+nb)
   (Q:=λc fL=>SameG st fL/\((∃r z,c=(cz r,z)/\Q9 ky a b r)\/∃lK lJ jF ac bc,c=(p4,lK,lJ,jF,ac,bc)/\NInv ky a b jF lK lJ/\0<lK/\1<lJ/\lK+lJ+1<=na+nb)) ?istep ?ifin ⟨hs,na,nb,out,_,_,rfl,M,h1,h2,by lia⟩) ?ipost)
  case ifin=>
   rintro c fL ⟨iU,lK,lJ,jF,ac,bc,rfl,M',g1,g2,g3⟩;exact⟨iU,.inr ⟨_,_,_,_,_,rfl,M',g1,g2,by lia⟩⟩
  case istep=>
   rintro x' c fL _ sr ⟨iU,lK,lJ,jF,ac,bc,rfl,M',g1,g2,g3⟩;have ja:lK-1<a.size:=by have:=M'.la;lia
   have jb:lJ-1<b.size:=by have:=M'.lb;lia
   refine aP (l8 jb (aP (l8 ja ?_)));refine aP (a3f H (iU.1.trans hk) (sb _ jb) (sa _ ja) (k7 (λc=>?_) λc=>?_))
   ·have M2:=NInv.stepA (na:=lK-1) (by rw[show lK-1+1=lK by lia];exact M') ua ja λj hj h=>cH (KeyOrd.klt_of_kle_of_klt (ub j (lJ-1) jb (by lia)) c)
    refine aP (l8 ja (k7 (λd=>aX ⟨iU,.inl ⟨_,_,rfl,nL M2 (eq_of_beq d)⟩⟩) λd=>?_));have e:lK-1≠0:=y8 d;exact k7 (λ_=>aX ⟨iU,.inr ⟨lK-1,lJ,_,_,_,rfl,M2,by lia,g2,by lia⟩⟩) λ_=>aX ⟨iU,lK-1,lJ,_,_,_,rfl,M2,by lia,g2,by lia⟩
   ·have c:=gc.mpr c;have M2:=NInv.stepB (nb:=lJ-1) (by rw[show lJ-1+1=lJ by lia];exact M') ub jb λi hi h=>cX (ua i (lK-1) ja (by lia)) (show O.kle (ky a[lK-1]) (ky b[lJ-1]) from c)
    refine aP (l8 jb (k7 (λd=>aX ⟨iU,.inl ⟨_,_,rfl,mr M2 (eq_of_beq d)⟩⟩) λd=>?_));have e:lJ-1≠1:=y8 d;exact k7 (λ_=>aX ⟨iU,.inr ⟨lK,lJ-1,_,_,_,rfl,M2,g1,by lia,by lia⟩⟩) λ_=>aX ⟨iU,lK,lJ-1,_,_,_,rfl,M2,g1,by lia,by lia⟩
  case ipost=>
   rintro c fL ⟨iU,⟨r,z,rfl,hm⟩|⟨lK,lJ,jF,ac,bc,rfl,M',g1,g2,g3⟩⟩
   ·exact aX ⟨iU,r,_,rfl,hm⟩
   refine aP (R1 ?_);refine aP (gd (dD (I:=λ_ c jS=>SameG st jS/\∃i2 j2 o2 mg ac bc,c=(p4,i2,j2,o2,mg,ac,bc)/\NInv ky a b o2 i2 j2/\0<i2/\1<j2/\i2+j2<=lK+lJ)
    (Q:=λc jS=>SameG st jS/\((∃r z,c=(cz r,z)/\Q9 ky a b r)\/∃i2 j2 o2 mg ac bc,c=(p4,i2,j2,o2,mg,ac,bc)/\NInv ky a b o2 i2 j2/\0<i2/\1<j2/\i2+j2<=lK+lJ)) ?gstep ?gfin ⟨iU,lK,lJ,jF,_,_,_,rfl,M',g1,g2,ay _⟩) ?gpost)
   case gfin=>
    rintro c jS ⟨ou,x⟩;exact⟨ou,.inr x⟩
   case gpost=>
    rintro c jS ⟨ou,⟨r,z,rfl,hm⟩|⟨i2,j2,o2,uB,AR,AN,rfl,M2,k1,k2,k3⟩⟩
    ·exact aX ⟨ou,r,_,rfl,hm⟩
    refine aP (a0M λlz uJ=>aX ?_);exact⟨ou.trans uJ,i2,j2,o2,_,rfl,M2,k1,k2,by lia⟩
   case gstep=>
    rintro y c jS _ hy ⟨ou,i2,j2,o2,uB,AR,AN,rfl,M2,k1,k2,k3⟩;have ja:=M2.la;have jb:=M2.lb;have wx:j2-1<b.size:=by lia
    dsimp only
    refine' R6 (γ:=Nat) (δ:=True) (R:=λ_ _=>True) (λmg tt _=>?tl0) λtl=>?mn0
    case mn0=>
     have u:=trivial;refine k7 (λ_=>?_) λ_=>?_
     ·generalize uB-1=g;exact tl g u u
     ·exact tl uB u u
    refine aP (a0M λlz uJ=>?_);have nH:=ou.trans uJ;refine aP (l8 wx ?_);refine aP (a3h H (nH.1.trans hk) (ua.part _ _) (λi h _ _=>sa i h) (sb _ wx) (by lia) (by lia) λk q1 q2 q3=>?_)
    dsimp only
    generalize qN:i2-k=ac;refine' R6 (R:=λi3 o3=>NInv ky a b o3 i3 j2/\i3=k/\0<i3) (λi3 o3 h3=>?tl1) λtl=>?mn1
    case mn1=>
     refine k7 (λsE=>?_) λsE=>?_
     ·have M3:=NInv.manyA ua (i2-k) M2 (by lia) λi hi h1 h2 j hj h3=>cX (ub j (j2-1) wx (by lia)) (cH (q3 i hi (by lia) (by lia)))
      rw[show i2-(i2-k)=k by lia]at M3;refine k7 (λd=>aX ⟨nH,.inl ⟨_,_,rfl,nL M3 (eq_of_beq d)⟩⟩) λd=>?_
      have e1:=y8 d;generalize o2++(a.extract k i2).reverse=o3 at M3 ⊢;obtain⟨i3,ei⟩:∃i3,i3=k:=⟨_,rfl⟩;rw[<-ei]at M3 ⊢;exact tl i3 o3 ⟨M3,ei,by lia⟩
     ·exact tl i2 o2 ⟨M2,by lia,k1⟩
    obtain⟨M3,ei,h0⟩:=h3;have M4:=NInv.stepB (nb:=j2-1) (by rw[show j2-1+1=j2 by lia];exact M3) ub wx λi hi h=>q2 i hi (by lia) (by lia)
    refine aP (l8 wx (k7 (λd=>aX ⟨nH,.inl ⟨_,_,rfl,mr M4 (eq_of_beq d)⟩⟩) λd3=>?_));have e3:=y8 d3;have ri:i3-1<a.size:=by lia
    refine aP (l8 ri ?_);refine aP (a3i H (nH.1.trans hk) (ub.part _ _) (λi h _ _=>sb i h) (sa _ ri) (by lia) (by lia) λk' r1 r2 r3=>?_)
    dsimp only
    generalize HN:j2-1-k'=bc;refine' R6 (R:=λj3 o4=>NInv ky a b o4 i3 j3/\j3=k'/\1<j3) (λj3 o4 h3=>?tl2) λtl=>?mn2
    case mn2=>
     refine k7 (λAc=>?_) λAc=>?_
     ·have M5:=NInv.manyB ub (j2-1-k') M4 (by lia) λj hj h1 h2 i hi h3=>cX (ua i (i3-1) ri (by lia)) (r3 j hj (by lia) (by lia))
      rw[show j2-1-(j2-1-k')=k' by lia]at M5;refine k7 (λd=>aX ⟨nH,.inl ⟨_,_,rfl,mr M5 (eq_of_beq d)⟩⟩) λd4=>k7 (λd6=>?_) λd6=>?_
      ·have e6:k'=0:=eq_of_beq d6;refine aX ⟨nH,.inl ⟨_,_,rfl,?_⟩⟩;have CY:=M5;rw[e6]at CY ⊢;exact CY.doneB ua
      have e4:=y8 d4;have e6:=y8 d6;generalize o3.push b[j2-1]++(b.extract k' (j2-1)).reverse=o4 at M5 ⊢;obtain⟨j3,ej⟩:∃j3,j3=k':=⟨_,rfl⟩;rw[<-ej]at M5 ⊢;exact tl j3 o4 ⟨M5,ej,by lia⟩
     ·generalize o3.push b[j2-1]=o4 at M4 ⊢;exact tl (j2-1) o4 ⟨M4,by lia,by lia⟩
    obtain⟨M5,ej,h1⟩:=h3;have M6:=NInv.stepA (na:=i3-1) (by rw[show i3-1+1=i3 by lia];exact M5) ua ri λj hj h=>cH (r2 j hj (by lia) (by lia))
    refine aP (l8 ri (k7 (λd=>aX ⟨nH,.inl ⟨_,_,rfl,nL M6 (eq_of_beq d)⟩⟩) λd=>?_));have e5:=y8 d;exact k7 (λ_=>aX ⟨nH,.inr ⟨_,_,_,_,_,_,rfl,M6,by lia,by lia,by lia⟩⟩) λ_=>aX ⟨nH,_,_,_,_,_,_,rfl,M6,by lia,by lia,by lia⟩
end
theorem a9a{α:Type}(p0:Nat):∀(l:List α) (n:Nat) (arr:Array α),p0+n+l.length<=arr.size->((l.zipIdx n).foldl (λa (q:α×Nat)=>a.setIfInBounds (p0+q.2) q.1) arr).toList=arr.toList.take (p0+n)++l++arr.toList.drop (p0+n+l.length)
 |[],n,arr,h=>by simp
 |x::l,n,arr,h=>by
  rw[ba]at h;rw[pL,qG,a9a p0 l (n+1) _ (by rw[Array.size_setIfInBounds];lia),Array.toList_setIfInBounds];have hl:p0+n<arr.toList.length:=by rw[aD];lia
  have e1:(arr.toList.set (p0+n) x).take (p0+(n+1))=arr.toList.take (p0+n)++[x]:=by
   rw[show p0+(n+1)=(p0+n)+1 by lia,take_snoc (by rw[List.length_set];exact hl),List.take_set_of_le (ay _),List.getElem_set_self]
  have e2:(arr.toList.set (p0+n) x).drop (p0+(n+1)+l.length)=arr.toList.drop (p0+n+(x::l).length):=by
   rw[List.drop_set_of_lt (by lia),ba]
   congr 1;lia
  rw[e1,e2];simp
section
variable {prog:bA}{w:bX}{A:bL}{E:aj->aq->Prop}{s:aq}{κ:eW}{O:KeyOrd}{ky:bR->O.α}{S:bR->Prop}{st:dh}
def b4T(h:Q ⟨⟩ cF):uu (aT prog w) A E s (set cF:StateT dh yK PUnit) Q st:=by
 unfold uu;rw[StateT.run_set];exact ah ⟨rfl,h⟩
def a1W{arr:Array bR}{base n:Nat}(u:UpR ky arr base n)(hn:base+n<=arr.size){lo hi:Nat}(h1:base<=lo)(h2:lo<=hi)(h3:hi<=base+n):UpA ky (arr.extract lo hi):=by
 intro i j hj h;rw[nO]at hj;rw[dP,dP];exact u (lo+i) (lo+j) (by lia) (by lia) (by lia) (by lia)
structure Fused (ky:bR->O.α) (arr nc:Array bR) (lo hi:Nat):Prop where
 pm:nc.toList.Perm arr.toList
 out:∀t,t<lo\/hi<=t->nc[t]?=arr[t]?
 up:UpR ky nc lo (hi-lo)
def a6L(H:CmpS prog w A s κ O ky S)(hk:kindOf st=κ){i sa na pw sb nb zb:Nat}(p1:(cy st)[i]?=cz (sa,na,pw))(p2:(cy st)[i+1]?=cz (sb,nb,zb))(zI:sb=sa+na)(ya:0<na)(zg:0<nb)(hsz:sb+nb<=(aY st).size)(sS:∀i (h:i<(aY st).size),S (aY st)[i])(u1:UpR ky (aY st) sa na)(u2:UpR ky (aY st) sb nb)(hfl:gv st=p4){Q:Bool->dh->Prop}
  (q:∀cF,kindOf cF=kindOf st->gv cF=p4->cy cF=((cy st).setIfInBounds i (sa,na+nb,pw)).eraseIdxIfInBounds (i+1)->Fused ky (aY st) (aY cF) sa (sb+nb)->Q rp cF):uu (aT prog w) A E s (mergeAt' i) Q st:=by
 refine aP (nz ?_);rw[p1,p2]
 dsimp only
 refine aP (b4T ?_);have b0:sb<(aY st).size:=by lia
 refine aP (l8 b0 ?_);refine aP (a3h H (by exact hk) u1 (λi h _ _=>sS i h) (sS _ b0) (by lia) ya λk k1 k2 k3=>?_)
 dsimp only
 have ui:(∀i (hi:i<(aY st).size),sa<=i->i<sb->O.kle (ky (aY st)[i]) (ky (aY st)[sb]))->Fused ky (aY st) (aY st) sa (sb+nb):=λh=>⟨gT _,λ_ _=>rfl,λi j hj iH h1 h2=>by
  rcases eS j sb with c|c
  ·exact u1 i j hj iH h1 (by lia)
  ·rcases eS i sb with d|d
   ·exact cX (h i (by lia) h1 d) (u2 sb j hj c (ay _) (by lia))
   ·exact u2 i j hj iH d (by lia)⟩
 by_cases c1:(na-k==0)=rp
 ·rw[aC c1];have e:na-k=0:=by simpa using c1
  exact aX (q _ rfl hfl rfl (ui λi hi h1 h2=>k2 i hi h1 (by lia)))
 rw[aI c1];have e1:na-k≠0:=by simpa using c1
 have al:sa+k+(na-k)-1<(aY st).size:=by lia
 refine aP (l8 al ?_);refine aP (a3i H (by exact hk) u2 (λi h _ _=>sS i h) (sS _ al) (by lia) (by lia) λm m1 m2 m3=>?_)
 dsimp only
 by_cases c2:(m==0)=rp
 ·rw[aC c2];have e:m=0:=by simpa using c2
  refine aX (q _ rfl hfl rfl (ui λi hi h1 h2=>?_));refine cX (u1 i (sa+k+(na-k)-1) al (by lia) h1 (by lia)) (m3 sb b0 (by lia) (by lia))
 rw[aI c2];have e2:m≠0:=by simpa using c2
 have xs:((aY st).extract (sa+k) sb).size=na-k:=by rw[nO];lia
 have ys:((aY st).extract sb (sb+m)).size=m:=by rw[nO];lia
 have ux:UpA ky ((aY st).extract (sa+k) sb):=a1W u1 (by lia) (by lia) (by lia) (by lia);have uy:UpA ky ((aY st).extract sb (sb+m)):=a1W u2 (by lia) (by lia) (by lia) (by lia);have sx:∀i (h:i<((aY st).extract (sa+k) sb).size),S ((aY st).extract (sa+k) sb)[i]:=λi h=>by rw[dP];exact sS _ _
 have sy:∀i (h:i<((aY st).extract sb (sb+m)).size),S ((aY st).extract sb (sb+m))[i]:=λi h=>by rw[dP];exact sS _ _
 have hf:O.klt (ky (((aY st).extract sb (sb+m))[0]'(by lia))) (ky (((aY st).extract (sa+k) sb)[0]'(by lia))):=by
  rw[dP,dP];exact k3 (sa+k+0) (by lia) (by lia) (by lia)
 have hl:∀j (hj:j<((aY st).extract sb (sb+m)).size),O.klt (ky ((aY st).extract sb (sb+m))[j]) (ky (((aY st).extract (sa+k) sb)[((aY st).extract (sa+k) sb).size-1]'(by lia))):=λj hj=>by
  rw[dP,dP];have:=m2 (sb+j) (by lia) (by lia) (by lia);simp only[xs];have e:sa+k+(na-k-1)=sa+k+(na-k)-1:=by lia
  simp only[e];exact this
 have fin:∀out cF,SameG (setPending st (((cy st).setIfInBounds i (sa,na+nb,pw)).eraseIdxIfInBounds (i+1))) cF->Q9 ky ((aY st).extract (sa+k) sb) ((aY st).extract sb (sb+m)) out->
   uu (aT prog w) A E s (do
    modify λs=>setArr s (out.toList.zipIdx.foldl (λa (p,j)=>a.setIfInBounds (sa+k+j) p) (aY s))
    return (gv (<-get)).isNone) Q cF:=by
  intro out cF ⟨g1,g2,g3,g4⟩ hm;have os:out.size=na-k+m:=by
   have:=hm.1.length_eq;rw[a_,aD,aD,aD,xs,ys]at this;exact this
  have mK:aY cF=aY st:=g2;have wl:=a9a (sa+k) out.toList 0 (aY st) (by rw[aD];lia);rw[oS,aD]at wl;refine aP (mR (aP (nz (aX ?_))));have ff:(gv cF).isNone=rp:=by rw[show gv cF=gv st from g4,hfl];rfl
  show Q (gv cF).isNone _;rw[ff];refine q _ g1 (by show gv cF=p4;rw[show gv cF=gv st from g4,hfl]) g3 ?_;show Fused ky (aY st) (out.toList.zipIdx.foldl (λa (q:bR×Nat)=>a.setIfInBounds (sa+k+q.2) q.1) (aY cF)) sa (sb+nb);rw[mK];generalize hW:out.toList.zipIdx.foldl (λa (q:bR×Nat)=>a.setIfInBounds (sa+k+q.2) q.1) (aY st)=W at wl;have BE:((aY st).extract (sa+k) sb).toList++((aY st).extract sb (sb+m)).toList=((aY st).toList.drop (sa+k)).take (na-k+m):=by
   rw[gU,gU];simp only[kG];rw[show sb-(sa+k)=na-k by lia,show sb+m-sb=m by lia,List.take_add,List.drop_drop,show sa+k+(na-k)=sb by lia]
  have ws:W.size=(aY st).size:=by
   have:=d_ gA wl;rw[a_,a_,bT,hJ,aD,aD,aD]at this;lia
  have lo:∀t,t<sa+k->W[t]?=(aY st)[t]?:=λt ht=>by
   rw[<-bE,wl,bg,eJ (by rw[bT,aD];lia),sY ht,bE]
  have hi:∀t,sa+k+out.size<=t->W[t]?=(aY st)[t]?:=λt ht=>by
   rw[<-bE,wl,cY (by rw[a_,bT,aD,aD];lia),nN,a_,bT,aD,aD,<-bE]
   congr 1;lia
  have mid:∀t,t<out.size->W[sa+k+t]?=out[t]?:=λt ht=>by
   rw[<-bE,wl,bg,cY (by rw[bT,aD];lia),bT,aD,eJ (by rw[aD];lia),bE]
   congr 1;lia
  have src:∀x∈out.toList,∃u,∃h:u<(aY st).size,sa+k<=u/\u<sb+m/\x=(aY st)[u]:=λx hx=>by
   have h1:=hm.1.mem_iff.mp hx;rw[BE]at h1;obtain⟨v,hv,e⟩:=gR.mp h1;rw[bT,hJ,aD]at hv;refine⟨sa+k+v,by lia,by lia,by lia,?_⟩;rw[<-e,Dc,Dd,bY]
  refine⟨?_,λt ht=>?_,λt1 t2 h2 HR hlo uX=>?_⟩
  ·rw[wl];have e:(aY st).toList=(aY st).toList.take (sa+k)++((aY st).toList.drop (sa+k)).take (na-k+m)++(aY st).toList.drop (sa+k+out.size):=by
    have e2:(aY st).toList.drop (sa+k+(na-k+m))=((aY st).toList.drop (sa+k)).drop (na-k+m):=by rw[List.drop_drop]
    rw[os,bg,e2,ji,ji]
   conv=>rhs;rw[e]
   refine List.Perm.append_right _ (mf _ ?_);rw[<-BE];exact hm.1
  ·rcases ht with h|h
   ·exact lo t (by lia)
   ·exact hi t (by lia)
  ·have Gn:∀t (h:t<W.size) (h':t<(aY st).size),t<sa+k\/sa+k+out.size<=t->W[t]=(aY st)[t]:=λt h h' ht=>by
    have:=ht.elim (lo t) (hi t);rw[bt h,bt h']at this;exact aK this
   have md:∀t (h:t<W.size),sa+k<=t->t<sa+k+out.size->∃h':t-(sa+k)<out.size,W[t]=out[t-(sa+k)]:=λt h ht ye=>by
    have:=mid (t-(sa+k)) (by lia);rw[show sa+k+(t-(sa+k))=t by lia,bt h,bt (by lia)]at this;exact⟨by lia,aK this⟩
   have any:∀t (h:t<W.size),sa<=t->t<sb+nb->∃u,∃h':u<(aY st).size,W[t]=(aY st)[u]/\(u=t\/sa+k<=u/\u<sb+m/\sa+k<=t/\t<sa+k+out.size):=λt h ht ye=>by
    by_cases c:t<sa+k\/sa+k+out.size<=t
    ·exact⟨t,by lia,Gn t h _ c,.inl rfl⟩
    ·obtain⟨h',e⟩:=md t h (by lia) (by lia);obtain⟨u,hu,Ep,Eo,e'⟩:=src _ (kW h');exact⟨u,hu,e.trans e',.inr ⟨Ep,Eo,by lia,by lia⟩⟩
   have w1:t1<W.size:=by lia
   obtain⟨a,ha,ea,ca⟩:=any t1 w1 hlo (by lia);obtain⟨b,hb,eb,cb⟩:=any t2 h2 (by lia) (by lia);by_cases c:t1<sa+k
   ·rw[ea,eb];rcases eS b sb with z|z
    ·exact u1 a b hb (by lia) (by lia) (by lia)
    ·rcases eS a sb with y|y
     ·exact cX (k2 a ha (by lia) (by lia)) (u2 sb b hb z (ay _) (by lia))
     ·lia
   by_cases d:sa+k+out.size<=t2
   ·rw[ea,eb];rcases eS a sb with y|y
    ·exact cX (u1 a (sa+k+(na-k)-1) al (by lia) (by lia) (by lia)) (m3 b hb (by lia) (by lia))
    ·exact u2 a b hb (by lia) y (by lia)
   obtain⟨mq,e1⟩:=md t1 w1 (by lia) (by lia);obtain⟨jL,e2⟩:=md t2 h2 (by lia) (by lia);rcases eS t1 t2 with y|y
   ·have:=kE.mp hm.2 (t1-(sa+k)) (t2-(sa+k)) (by rw[aD];lia) (by rw[aD];lia) (by lia)
    rwa[bY,bY,<-e1,<-e2]at this
   ·have:t1=t2:=by lia
    subst this;exact eH _
 split
 ·exact aP (a6I H (by exact hk) ux uy sx sy (by lia) (by lia) hf hl λout cF hs hm=>fin out cF hs hm)
 ·exact aP (a6K H (by exact hk) ux uy sx sy (by lia) (by lia) hf hl λout cF hs hm=>fin out cF hs hm)
end
def a6M{α:Sort _}{P:α->Prop}{G:Prop}(code:α)(h:P code)(k:P code->G):G:=k h
section
variable {prog:bA}{w:bX}{A:bL}{E:aj->aq->Prop}{s:aq}{κ:eW}{O:KeyOrd}{ky:bR->O.α}{S:bR->Prop}{st:dh}
def kq(ky:bR->O.α)(d:O.α)(arr:Array bR)(t:Nat):O.α:=(arr[t]?.map ky).getD d
def W4{xs ys:Array bR}(h:xs[i]?=ys[j]?):kq ky d xs i=kq ky d ys j:=by unfold kq;rw[h]
def a9b{arr:Array bR}(h:t<arr.size):kq ky d arr t=ky arr[t]:=by unfold kq;rw[bt h];rfl
def a1y{xs:Array bR}(hj:j<=xs.size)(k:Nat):kq ky d (nR xs i j ((j-i) / 2)) k=if i<=k/\k<j then kq ky d xs (i+j-1-k) else kq ky d xs k:=by
 have e:=getElem?_mirror_all (i:=i) hj k
 split
 ·rename_i h;rw[aC h]at e;exact W4 e
 ·rename_i h;rw[aI h]at e;exact W4 e
def N8{xs:Array bR}(hj:j<=xs.size)(heq:∀k,i<=k->k<j->kq ky d xs k=kq ky d xs (j-1))(k:Nat):kq ky d (nR xs i j ((j-i) / 2)) k=kq ky d xs k:=by
 rw[a1y hj]
 split
 ·rw[heq _ (by lia) (by lia),heq k (by lia) (by lia)]
 ·rfl
def AscTo(ky:bR->O.α)(d:O.α)(arr:Array bR)(lo n:Nat):Prop:=∀i j,i<=j->j<n->O.kle (kq ky d arr (lo+i)) (kq ky d arr (lo+j))
def a6N(ky:bR->O.α)(d:O.α)(arr:Array bR)(lo n:Nat):Prop:=∀i j,i<=j->j<n->O.kle (kq ky d arr (lo+j)) (kq ky d arr (lo+i))
def AscTo.up{d:O.α}{arr:Array bR}{lo n:Nat}(h:AscTo ky d arr lo n):UpR ky arr lo n:=λi j hj iH h1 h2=>by
 have:=h (i-lo) (j-lo) (by lia) (by lia);rw[show lo+(i-lo)=i by lia,show lo+(j-lo)=j by lia,a9b hj,a9b (show i<arr.size by lia)]at this;exact this
structure SB (S:bR->Prop) (κ:eW) (ly st:dh) (lo hi:Nat):Prop where
 kind:kindOf st=κ
 fl:gv st=p4
 pn:cy st=cy ly
 pm:(aY st).Perm (aY ly)
 out:∀t,t<lo\/hi<=t->(aY st)[t]?=(aY ly)[t]?
 all:∀i (h:i<(aY st).size),S (aY st)[i]
theorem SB.size{ly:dh}{lo hi:Nat}(h:SB S κ ly st lo hi):(aY st).size=(aY ly).size:=by have:=(fP.mp h.pm).length_eq;simpa using this
def SB.mod{ly:dh}{lo hi:Nat}(h:SB S κ ly st lo hi){xs:Array bR}(p:xs.Perm (aY st))(o:∀t,t<lo\/hi<=t->xs[t]?=(aY st)[t]?):SB S κ ly (setArr st xs) lo hi:=by
 refine⟨h.kind,h.fl,h.pn,p.trans h.pm,λt ht=>(o t ht).trans (h.out t ht),λi hi=>?_⟩;have hm:xs[i]∈(aY st).toList:=(fP.mp p).mem_iff.mp (kW hi);obtain⟨j,hj,e⟩:=gR.mp hm;show S xs[i];rw[<-e,bY];exact h.all j (by simpa using hj)
def SB.mir{ly:dh}{lo hi i j:Nat}(h:SB S κ ly st lo hi)(h1:lo<=i)(h2:j<=hi)(h3:j<=(aY st).size):SB S κ ly (setArr st (nR (aY st) i j ((j-i) / 2))) lo hi:=h.mod (mirror_perm _ _ _ _) λt ht=>by
 rw[getElem?_mirror_all h3,aI (by lia)]
def L8(H:CmpS prog w A s κ O ky S){d:O.α}{ly:dh}{lo hi i j:Nat}(B:SB S κ ly st lo hi)(lA:i<(aY st).size)(rg:j<(aY st).size){Q:Option Bool->dh->Prop}(h:Q (cz (O.blt (kq ky d (aY st) i) (kq ky d (aY st) j))) st):uu (aT prog w) A E s (ltAt' i j) Q st:=by
 rw[ltAt'_eq];refine aP (nz ?_)
 dsimp only
 refine aP (l8 lA (aP (l8 rg ?_)));rw[a9b lA,a9b rg]at h;exact a3f H B.kind (B.all _ _) (B.all _ _) h
def a0N(h:Q () (setArr st (nR (aY st) i j ((j-i) / 2)))):uu (aT prog w) A E s (reverseSlice' i j) Q st:=by
 rw[reverseSlice'_eq];exact mR h
def a4b(H:CmpS prog w A s κ O ky S){d:O.α}{ly:dh}{lo iQ:Nat}(B:SB S κ ly st lo (lo+iQ))(hn:lo+iQ<=(aY ly).size)(h1:1<=iQ){Q:Option Nat->dh->Prop}
  (q:∀m cF,SB S κ ly cF lo (lo+iQ)->1<=m->m<=iQ->AscTo ky d (aY cF) lo m->Q (cz m) cF):uu (aT prog w) A E s (countRun' lo iQ) Q st:=by
 have AO:∀{cF:dh},AscTo ky d (aY cF) lo 1:=λ{cF} i j iH hj=>by
  have:i=j:=by lia
  subst this;exact eH _
 have pW:∀{cF:dh} {n:Nat},1<=n->AscTo ky d (aY cF) lo n->O.blt (kq ky d (aY cF) (lo+n)) (kq ky d (aY cF) (lo+n-1))=xn->AscTo ky d (aY cF) lo (n+1):=λ{cF n} EO ha hb i j iH hj=>by
  by_cases c:j<n
  ·exact ha i j iH c
  ·have:j=n:=by lia
   subst this;by_cases e:i=j
   ·subst e;exact eH _
   ·have h2:=ha i (j-1) (by lia) (by lia);rw[show lo+(j-1)=lo+j-1 by lia]at h2;exact cX h2 hb
 rw[countRun'_eq];refine aP (gd (dD (I:=λx c cF=>cF=st/\c=(p4,x)/\AscTo ky d (aY st) lo x)
  (Q:=λc cF=>cF=st/\∃n,c=(p4,n)/\1<=n/\n<=iQ/\AscTo ky d (aY st) lo n/\(n=iQ\/O.klt (kq ky d (aY st) (lo+n)) (kq ky d (aY st) (lo+n-1)))) ?astep ?afin ⟨rfl,rfl,AO⟩) ?apost)
 case afin=>
  rintro c cF ⟨rfl,rfl,ha⟩;rw[show max 1 iQ=iQ by lia]at ha ⊢;exact⟨rfl,iQ,rfl,h1,ay _,ha,.inl rfl⟩
 case astep=>
  rintro x c cF vE zw ⟨rfl,rfl,ha⟩;have sz:=B.size
  dsimp only
  exact aP (L8 H (d:=d) B (by lia) (by lia) (k7 (λhb=>aX ⟨rfl,x,rfl,vE,by lia,ha,.inr hb⟩) λhb=>aX ⟨rfl,rfl,pW vE ha (gc.mpr hb)⟩))
 case apost=>
  rintro c cF ⟨rfl,n,rfl,n1,nn,ha,EF⟩;have sz:=B.size
  dsimp only
  refine k7 (λcn=>aX (q n cF B n1 nn ha)) λcn=>?_
  have en:=y8 cn;have gX:O.klt (kq ky d (aY cF) (lo+n)) (kq ky d (aY cF) (lo+n-1)):=EF.resolve_left en;refine' a6M (P:=λcode=>∀xW:dh,SB S κ ly xW lo (lo+iQ)->a6N ky d (aY xW) lo (n+1)->uu (aT prog w) A E s code Q xW) _ ?desc λdesc=>?main
  case main=>
   refine k7 (λFh=>?_) λFh=>?_
   ·refine aP (L8 H (d:=d) B (by lia) (by lia) (k7 (λpR=>aX (q n cF B n1 nn ha)) λpR=>?_))
    ·have pR:=gc.mpr pR;have jV:∀t,lo<=t->t<lo+n->kq ky d (aY cF) t=kq ky d (aY cF) (lo+n-1):=λt t1 t2=>by
      have a1:=ha 0 (t-lo) (by lia) (by lia);have a2:=ha (t-lo) (n-1) (by lia) (by lia);rw[show lo+0=lo by lia,show lo+(t-lo)=t by lia]at a1;rw[show lo+(t-lo)=t by lia,show lo+(n-1)=lo+n-1 by lia]at a2;exact KeyOrd.kle_antisymm a2 (cX pR a1)
     refine aP (a0N ?_);refine desc _ (B.mir (i:=lo) (j:=lo+n) (ay _) (by lia) (by lia)) λi j iH hj=>?_
     show O.kle (kq ky d (nR (aY cF) lo (lo+n) ((lo+n-lo) / 2)) (lo+j)) (kq ky d (nR (aY cF) lo (lo+n) ((lo+n-lo) / 2)) (lo+i));rw[N8 (by lia) jV,N8 (by lia) jV];by_cases HH:j<n
     ·rw[jV (lo+i) (by lia) (by lia),jV (lo+j) (by lia) (by lia)];exact eH _
     ·have rg:j=n:=by lia
      subst rg;by_cases lA:i=j
      ·subst lA;exact eH _
      ·rw[jV (lo+i) (by lia) (by lia)];exact cH gX
   ·have e:n=1:=by lia
    refine desc _ B λi j iH hj=>?_
    by_cases lA:i=j
    ·subst lA;exact eH _
    ·have Ff:lo+i=lo+n-1:=by lia
     have Fc:lo+j=lo+n:=by lia
     rw[Ff,Fc];exact cH gX
  case desc=>
   intro xW B1 D1;have Hi:=B1.size;refine aP (R1 ?_);refine aP (gd (dD (I:=λx c kX=>∃nE,c=(p4,x,nE)/\SB S κ ly kX lo (lo+iQ)/\a6N ky d (aY kX) lo x/\nE+1<=x/\∀t,lo+x-(nE+1)<=t->t<lo+x->kq ky d (aY kX) t=kq ky d (aY kX) (lo+x-1))
    (Q:=λc kX=>∃x nE,c=(p4,x,nE)/\n+1<=x/\x<=iQ/\SB S κ ly kX lo (lo+iQ)/\a6N ky d (aY kX) lo x/\nE+1<=x/\∀t,lo+x-(nE+1)<=t->t<lo+x->kq ky d (aY kX) t=kq ky d (aY kX) (lo+x-1)) ?dstep ?dfin ⟨0,rfl,B1,D1,by lia,λt t1 t2=>by rw[show t=lo+(n+1)-1 by lia]⟩) ?dpost)
   case dfin=>
    rintro c kX ⟨nE,rfl,B2,D2,q1,q2⟩;rw[show max (n+1) iQ=iQ by lia]at D2 q1 q2 ⊢;exact⟨iQ,nE,rfl,by lia,ay _,B2,D2,q1,q2⟩
   case dstep=>
    rintro x c kX vE zw ⟨nE,rfl,B2,D2,q1,q2⟩;have Dw:=B2.size
    dsimp only
    refine aP (L8 H (d:=d) B2 (by lia) (by lia) (k7 (λlQ=>?_) λlQ=>?_))
    ·have tH:∀xs:Array bR,(∀k,kq ky d xs k=kq ky d (aY kX) k)->a6N ky d xs lo (x+1):=by
      intro xs hk i j iH hj;rw[hk,hk];by_cases uU:j<x
      ·exact D2 i j iH uU
      ·have rg:j=x:=by lia
       subst rg;by_cases lA:i=j
       ·subst lA;exact eH _
       ·have h2:=D2 i (j-1) (by lia) (by lia);rw[show lo+(j-1)=lo+j-1 by lia]at h2;exact cX (cH lQ) h2
     refine k7 (λuQ=>?_) λuQ=>?_
     ·refine aP (a0N (aX ⟨0,rfl,B2.mir (i:=lo+x-(nE+1)) (j:=lo+x) (by lia) (by lia) (by lia),tH _ (N8 (by lia) q2),by lia,λt t1 t2=>by rw[show t=lo+(x+1)-1 by lia]⟩))
     ·exact aX ⟨0,rfl,B2,tH _ (λ_=>rfl),by lia,λt t1 t2=>by rw[show t=lo+(x+1)-1 by lia]⟩
    ·have lQ:=gc.mpr lQ;refine aP (L8 H (d:=d) B2 (by lia) (by lia) (k7 (λml=>?_) λml=>?_))
     ·exact aX ⟨x,nE,rfl,vE,by lia,B2,D2,q1,q2⟩
     ·have ml:=gc.mpr ml;have xi:kq ky d (aY kX) (lo+x)=kq ky d (aY kX) (lo+x-1):=KeyOrd.kle_antisymm ml lQ;refine aX ⟨nE+1,rfl,B2,λi j iH hj=>?_,by lia,λt t1 t2=>?_⟩
      ·by_cases uU:j<x
       ·exact D2 i j iH uU
       ·have rg:j=x:=by lia
        subst rg;by_cases lA:i=j
        ·subst lA;exact eH _
        ·have h2:=D2 i (j-1) (by lia) (by lia);rw[show lo+(j-1)=lo+j-1 by lia]at h2;rw[xi];exact h2
      ·rw[show lo+(x+1)-1=lo+x by lia];by_cases qL:t=lo+x
       ·subst qL;rfl
       ·rw[xi];exact q2 t (by lia) (by lia)
   case dpost=>
    rintro c kX ⟨x,nE,rfl,x1,x2,B2,D2,q1,q2⟩;have Dw:=B2.size
    dsimp only
    refine' a6M (P:=λcode=>∀jS:dh,SB S κ ly jS lo (lo+iQ)->a6N ky d (aY jS) lo x->uu (aT prog w) A E s code Q jS) _ ?tl λtl=>?mn
    case mn=>
     refine k7 (λuQ=>?_) λuQ=>?_
     ·refine aP (a0N ?_);refine tl _ (B2.mir (i:=lo+x-(nE+1)) (j:=lo+x) (by lia) (by lia) (by lia)) λi j iH hj=>?_
      show O.kle (kq ky d (nR (aY kX) (lo+x-(nE+1)) (lo+x) ((lo+x-(lo+x-(nE+1))) / 2)) (lo+j)) (kq ky d (nR (aY kX) (lo+x-(nE+1)) (lo+x) ((lo+x-(lo+x-(nE+1))) / 2)) (lo+i));rw[N8 (by lia) q2,N8 (by lia) q2];exact D2 i j iH hj
     ·exact tl _ B2 D2
    case tl=>
     intro jS B3 D3;have Hh:=B3.size;refine aP (a0N ?_);have B4:=B3.mir (i:=lo) (j:=lo+x) (ay _) (by lia) (by lia);have A4:AscTo ky d (aY (setArr jS (nR (aY jS) lo (lo+x) ((lo+x-lo) / 2)))) lo x:=λi j iH hj=>by
      show O.kle (kq ky d (nR (aY jS) lo (lo+x) ((lo+x-lo) / 2)) (lo+i)) (kq ky d (nR (aY jS) lo (lo+x) ((lo+x-lo) / 2)) (lo+j));rw[a1y (by lia),a1y (by lia),aC (by lia),aC (by lia)];have:=D3 (x-1-j) (x-1-i) (by lia) (by lia);rw[show lo+(x-1-j)=lo+(lo+x)-1-(lo+j) by lia,show lo+(x-1-i)=lo+(lo+x)-1-(lo+i) by lia]at this;exact this
     generalize setArr jS (nR (aY jS) lo (lo+x) ((lo+x-lo) / 2))=lz at B4 A4 ⊢;refine aP (gd (dD (I:=λy c cF=>cF=lz/\c=(p4,y)/\AscTo ky d (aY lz) lo y)
      (Q:=λc cF=>cF=lz/\∃m,c=(p4,m)/\1<=m/\m<=iQ/\AscTo ky d (aY lz) lo m) ?bstep ?bfin ⟨rfl,rfl,A4⟩) ?bpost)
     case bfin=>
      rintro c cF ⟨rfl,rfl,ha⟩;rw[show max x iQ=iQ by lia]at ha ⊢;exact⟨rfl,iQ,rfl,h1,ay _,ha⟩
     case bstep=>
      rintro y c cF Hw Hv ⟨rfl,rfl,ha⟩;have Hg:=B4.size
      dsimp only
      exact aP (L8 H (d:=d) B4 (by lia) (by lia) (k7 (λhb=>aX ⟨rfl,y,rfl,by lia,by lia,ha⟩) λhb=>aX ⟨rfl,rfl,pW (by lia) ha (gc.mpr hb)⟩))
     case bpost=>
      rintro c cF ⟨rfl,m,rfl,m1,m2,ha⟩;exact aX (q m cF B4 m1 m2 ha)
def a4C{xs:Array bR}(hs:src<xs.size)(hd:e<=src)(k:Nat) :
  kq ky d (bubble xs src e) k=if k=src-e then kq ky d xs src else if src-e<k/\k<=src then kq ky d xs (k-1) else kq ky d xs k:=by
 have e:=getElem?_bubble hs e hd k
 split
 ·rename_i h1;rw[aC h1]at e;exact W4 e
 ·rename_i h1
  rw[aI h1]at e
  split
  ·rename_i h2;rw[aC h2]at e;exact W4 e
  ·rename_i h2;rw[aI h2]at e;exact W4 e
def a2q(H:CmpS prog w A s κ O ky S){d:O.α}{ly:dh}{lo hi n ok:Nat}(B:SB S κ ly st lo hi)(hn:lo+n<=(aY ly).size)(hh:lo+n<=hi)(hok:ok<=n)(hs:AscTo ky d (aY st) lo ok){Q:Bool->dh->Prop}
  (q:∀cF,SB S κ ly cF lo hi->AscTo ky d (aY cF) lo n->Q rp cF):uu (aT prog w) A E s (binarySort' lo n ok) Q st:=by
 rw[binarySort'_eq];refine aP (gd (dD (I:=λk c cF=>c=(p4,())/\SB S κ ly cF lo hi/\AscTo ky d (aY cF) lo (min k n))
  (Q:=λc cF=>c=(p4,())/\SB S κ ly cF lo hi/\AscTo ky d (aY cF) lo n) ?step ?fin ?init) ?post)
 case post=>
  rintro c cF ⟨rfl,B',iU⟩;exact aX (q cF B' iU)
 case init=>
  refine⟨rfl,B,λi j iH hj=>?_⟩;by_cases h1:ok=0
  ·have:i=j:=by lia
   subst this;exact eH _
  ·exact hs i j iH (by lia)
 case fin=>
  rintro c cF ⟨hc,B',iU⟩;refine⟨hc,B',?_⟩
  rwa[show min (max (max ok 1) n) n=n by lia]at iU
 case step=>
  rintro k c cF HP HG ⟨rfl,B',iU⟩;rw[show min k n=k by lia]at iU;have sz:=B'.size;refine aP (gd (dD (I:=λx c fL=>fL=cF/\∃l r,c=(p4,l,r)/\l<=r/\r<=k/\r-l<=k-x/\
    (∀i,i<l->O.kle (kq ky d (aY cF) (lo+i)) (kq ky d (aY cF) (lo+k)))/\(∀i,r<=i->i<k->O.klt (kq ky d (aY cF) (lo+k)) (kq ky d (aY cF) (lo+i))))
   (Q:=λc fL=>fL=cF/\∃l r,c=(p4,l,r)/\l<=k/\
    (∀i,i<l->O.kle (kq ky d (aY cF) (lo+i)) (kq ky d (aY cF) (lo+k)))/\(∀i,l<=i->i<k->O.klt (kq ky d (aY cF) (lo+k)) (kq ky d (aY cF) (lo+i)))) ?istep ?ifin ?iinit) ?ipost)
  case iinit=>exact⟨rfl,0,k,rfl,by lia,by lia,by lia,λi hi=>by lia,λi h1 h2=>by lia⟩
  case ifin=>
   rintro c fL ⟨rfl,l,r,rfl,ET,zJ,hm,hlo,uX⟩;have:l=r:=by lia
   subst this;exact⟨rfl,l,l,rfl,zJ,hlo,uX⟩
  case istep=>
   rintro x c fL _ BF ⟨rfl,l,r,rfl,ET,zJ,hm,hlo,uX⟩
   dsimp only
   by_cases qM:l≥r
   ·rw[aC qM];have:l=r:=by lia
    subst this;exact aX ⟨rfl,l,l,rfl,zJ,hlo,uX⟩
   ·rw[aI qM];refine aP (L8 H (d:=d) B' (by lia) (by lia) ?_)
    dsimp only
    cases lQ:O.blt (kq ky d (aY fL) (lo+k)) (kq ky d (aY fL) (lo+(l+r) / 2)) with
    |true=>
     rw[aC rfl];refine aX ⟨rfl,l,(l+r) / 2,rfl,by lia,by lia,by lia,hlo,λi h1 h2=>?_⟩;exact fK lQ (iU _ _ h1 h2)
    |false=>
     simp only[bF,dw];refine aX ⟨rfl,(l+r) / 2+1,r,rfl,by lia,by lia,by lia,λi h1=>?_,uX⟩;exact cX (iU i ((l+r) / 2) (by lia) (by lia)) (show O.kle _ _ from lQ)
  case ipost=>
   rintro c fL ⟨rfl,l,r,rfl,Cc,hlo,uX⟩;show uu _ _ _ _ (do moveDown' (lo+k) (lo+l);pure (dW (p4,()))) _ _;rw[moveDown'_eq];have oA:lo+k<(aY fL).size:=by lia
   refine aP (mR (aX ⟨rfl,B'.mod (bubble_perm _ _ _) λt ht=>?_,?_⟩))
   ·rw[getElem?_bubble oA _ (by lia),aI (by lia),aI (by lia)]
   rw[show min (k+1) n=k+1 by lia];intro i j iH hj;show O.kle (kq ky d (bubble (aY fL) (lo+k) (lo+k-(lo+l))) (lo+i)) (kq ky d (bubble (aY fL) (lo+k) (lo+k-(lo+l))) (lo+j));rw[a4C oA (by lia),a4C oA (by lia),show lo+k-(lo+k-(lo+l))=lo+l by lia];have ou:∀a b,lo<=a->a<=b->b<lo+k->O.kle (kq ky d (aY fL) a) (kq ky d (aY fL) b):=λa b h1 h2 h3=>by
    have:=iU (a-lo) (b-lo) (by lia) (by lia)
    rwa[show lo+(a-lo)=a by lia,show lo+(b-lo)=b by lia]at this
   have Ad:∀a,lo+l<=a->a<lo+k->O.klt (kq ky d (aY fL) (lo+k)) (kq ky d (aY fL) a):=λa h1 h2=>by
    have:=uX (a-lo) (by lia) (by lia)
    rwa[show lo+(a-lo)=a by lia]at this
   repeat' split
   all_goals first
    | (exfalso;lia)
    |exact eH _
    |exact hlo _ (by lia)
    |exact cH (Ad _ (by lia) (by lia))
    |exact ou _ _ (by lia) (by lia) (by lia)
def Chain(ky:bR->O.α)(arr:Array bR):List (Nat×Nat)->Nat->Nat->Prop
 |[],a,b=>a=b
 | (x,n)::l,a,b=>x=a/\0<n/\UpR ky arr x n/\Chain ky arr l (x+n) b
theorem Chain.len:∀{l:List (Nat×Nat)} {a b:Nat},Chain ky arr l a b->a+l.length<=b
 |[],a,b,h=>by have h:a=b:=h;simp;lia
 | (x,n)::l,a,b,⟨e,h0,_,h⟩=>by have:=h.len;rw[ba];lia
theorem Chain.app{arr:Array bR}{l2:List (Nat×Nat)}:∀{l1:List (Nat×Nat)} {a b:Nat},Chain ky arr (l1++l2) a b↔∃c,Chain ky arr l1 a c/\Chain ky arr l2 c b
 |[],a,b=>⟨λh=>⟨a,rfl,h⟩,λ⟨c,e,h⟩=>by have e:a=c:=e;subst e;exact h⟩
 | (x,n)::l,a,b=>by
  show (x=a/\0<n/\UpR ky arr x n/\Chain ky arr (l++l2) (x+n) b)↔_;rw[Chain.app (l1:=l)];exact⟨λ⟨h1,h2,h3,c,h4,h5⟩=>⟨c,⟨h1,h2,h3,h4⟩,h5⟩,λ⟨c,⟨h1,h2,h3,h4⟩,h5⟩=>⟨h1,h2,h3,c,h4,h5⟩⟩
def UpR.congr{arr nc:Array bR}(h:UpR ky arr x n)(e:∀t,x<=t->t<x+n->nc[t]?=arr[t]?):UpR ky nc x n:=λi j hj iH h1 h2=>by
 have ej:=e j (by lia) h2;have ei:=e i h1 (by lia);rw[bt hj]at ej;rw[bt (show i<nc.size by lia)]at ei;obtain⟨j2,yF⟩:=gW.mp ej.symm;obtain⟨i2,yG⟩:=gW.mp ei.symm;rw[<-yF,<-yG];exact h i j j2 iH h1 h2
theorem Chain.congr{arr nc:Array bR}:∀{l:List (Nat×Nat)} {a b:Nat},Chain ky arr l a b->(∀t,a<=t->t<b->nc[t]?=arr[t]?)->Chain ky nc l a b
 |[],a,b,h,_=>h
 | (x,n)::l,a,b,⟨e,h0,u,h⟩,he=>by
  have hl:=h.len;exact⟨e,h0,u.congr λt t1 t2=>he t (by lia) (by lia),h.congr λt t1 t2=>he t (by lia) t2⟩
def a0m(st:dh):List (Nat×Nat):=(cy st).toList.map λr=>(r.1,r.2.1)
structure RI (S:bR->Prop) (κ:eW) (ky:bR->O.α) (a0:Array bR) (st:dh) (lo:Nat):Prop where
 kind:kindOf st=κ
 fl:gv st=p4
 pm:(aY st).Perm a0
 all:∀i (h:i<(aY st).size),S (aY st)[i]
 ch:Chain ky (aY st) (a0m st) 0 lo
 hlo:lo<=a0.size
theorem RI.size{a0:Array bR}{lo:Nat}(h:RI S κ ky a0 st lo):(aY st).size=a0.size:=by have:=(fP.mp h.pm).length_eq;simpa using this
def a6O{α:Type}{l:List α}(h:i+1<l.length):l=l.take i++l[i]::l[i+1]::l.drop (i+2):=by
 conv=>lhs;rw[<-ji i l]
 rw[cB (show i<l.length by lia),cB h]
def a4D(l1 l2:List α)(a b v:α):((l1++a::b::l2).set l1.length v).eraseIdx (l1.length+1)=l1++v::l2:=by
 induction l1 with
 |nil=>rfl
 |cons x l1 ih=>simp only[bw,ba,iB,List.eraseIdx_cons_succ,ih]
def a6P(p:Array α)(i:Nat)(v:α):((p.setIfInBounds i v).eraseIdxIfInBounds (i+1)).toList=(p.toList.set i v).eraseIdx (i+1):=by
 obtain⟨l⟩:=p;simp
def RI.merge(H:CmpS prog w A s κ O ky S){a0:Array bR}{lo i:Nat}(R:RI S κ ky a0 st lo)(hi:i+1<(cy st).size){Q:Bool->dh->Prop}
  (q:∀cF,RI S κ ky a0 cF lo->(∀t,lo<=t->(aY cF)[t]?=(aY st)[t]?)->(cy cF).size+1=(cy st).size->Q rp cF):uu (aT prog w) A E s (mergeAt' i) Q st:=by
 have hl:i+1<(cy st).toList.length:=by rw[aD];exact hi
 have sp:=a6O hl;have zp:((cy st).toList.take i).length=i:=by rw[bT];lia
 generalize tR:(cy st).toList.take i=l1 at sp zp;generalize rV:(cy st).toList.drop (i+2)=l2 at sp;obtain⟨⟨sa,na,pw⟩,ea⟩:∃x,x=(cy st).toList[i]:=⟨_,rfl⟩;obtain⟨⟨sb,nb,zb⟩,eb⟩:∃x,x=(cy st).toList[i+1]:=⟨_,rfl⟩;rw[<-ea,<-eb]at sp;have p1:(cy st)[i]?=cz (sa,na,pw):=by rw[bt (by lia),ea,bY]
 have p2:(cy st)[i+1]?=cz (sb,nb,zb):=by rw[bt hi,eb,bY]
 have ch:=R.ch;rw[a0m,sp,aQ,Chain.app]at ch;obtain⟨c,c1,e1,ya,u1,e2,zg,u2,c2⟩:=ch
 dsimp only at e1 ya u1 e2 zg u2 c2
 have cl:=c2.len;have Ih:=c1.len;have sz:=R.size;have Bo:=R.hlo;refine a6L H R.kind p1 p2 e2 ya zg (by lia) R.all u1 u2 R.fl λcF k' f' pe F=>q cF ⟨k'.trans R.kind,f',(fP.mpr F.pm).trans R.pm,λi hi=>?_,?_,Bo⟩ (λt ht=>F.out t (by lia)) ?_
 ·have hm:(aY cF)[i]∈(aY st).toList:=F.pm.mem_iff.mp (kW hi);obtain⟨j,hj,e⟩:=gR.mp hm;rw[<-e,bY];exact R.all j (by simpa using hj)
 ·have e:(cy cF).toList=l1++(sa,na+nb,pw)::l2:=by
   rw[pe,a6P,sp]
   conv=>lhs;rw[<-zp]
   exact a4D _ _ _ _ _
  rw[a0m,e,aQ,Chain.app];refine⟨c,c1.congr λt _ t2=>F.out t (by lia),e1,by dsimp only;lia,?_,?_⟩
  ·dsimp only
   have:=F.up
   rwa[show sb+nb-sa=na+nb by lia]at this
  ·dsimp only
   rw[show sa+(na+nb)=sb+nb by lia];exact c2.congr λt t1 _=>F.out t (by lia)
 ·have:=d_ gA (d_ vA pe);rw[a6P,sp]at this;rw[<-zp,a4D]at this;have h2:=d_ gA sp;simp only[aD,a_,ba]at this h2;lia
def RI.pend{a0:Array bR}{lo:Nat}(R:RI S κ ky a0 st lo){p:Array (Nat×Nat×Nat)}(e:p.toList.map (λr=>(r.1,r.2.1))=a0m st):RI S κ ky a0 (setPending st p) lo:=
 ⟨R.kind,R.fl,R.pm,R.all,by show Chain ky (aY st) (p.toList.map _) 0 lo;rw[e];exact R.ch,R.hlo⟩
theorem RI.push{a0:Array bR}{lo n:Nat}(R:RI S κ ky a0 st lo)(n0:0<n)(hn:lo+n<=a0.size)(u:UpR ky (aY st) lo n):RI S κ ky a0 (setPending st ((cy st).push (lo,n,0))) (lo+n):=
 ⟨R.kind,R.fl,R.pm,R.all,by
  show Chain ky (aY st) (((cy st).push (lo,n,0)).toList.map _) 0 (lo+n);rw[b_,aQ,Chain.app];exact⟨lo,R.ch,rfl,n0,u,rfl⟩,hn⟩
def RI.sb{a0:Array bR}{lo hi:Nat}(R:RI S κ ky a0 st lo):SB S κ st st lo hi:=⟨R.kind,R.fl,rfl,Ir _,λ_ _=>rfl,R.all⟩
def RI.ofSB{a0:Array bR}{lo hi:Nat}{cF:dh}(R:RI S κ ky a0 st lo)(B:SB S κ st cF lo hi):RI S κ ky a0 cF lo:=
 ⟨B.kind,B.fl,B.pm.trans R.pm,B.all,by
  unfold a0m;rw[B.pn];exact R.ch.congr λt _ t2=>B.out t (.inl t2),R.hlo⟩
def b4U[Decidable c](h1:a+1<n)(h2:b+1<n):(if c then a else b)+1<n:=by split<;>assumption
def a4c(p:Array (Nat×Nat×Nat))(i pw:Nat):(p.modify i λ(x,len,_)=>(x,len,pw)).toList.map (λr=>(r.1,r.2.1))=p.toList.map λr=>(r.1,r.2.1):=by
 apply kK;intro k;rw[aZ,aZ,bE,bE,Array.getElem?_modify]
 split
 ·cases p[k]?<;>rfl
 ·rfl
def a4d(H:CmpS prog w A s κ O ky S)(d:O.α)(R0:RI S κ ky a0 st 0) 
  (q:∀cF,(aY cF).Perm a0->gv cF=p4->UpA ky (aY cF)->Q () cF):uu (aT prog w) A E s sortRuns' Q st:=by
 rw[sortRuns'_eq];refine aP (nz ?_)
 try dsimp only
 simp only[R0.size];refine aP (gd (dD
  (I:=λx c cF=>∃lo,c=(p4,lo)/\RI S κ ky a0 cF lo/\x<=lo)
  (Q:=λc cF=>c=(p4,a0.size)/\RI S κ ky a0 cF a0.size) ?step ?fin ⟨0,rfl,R0,ay _⟩) ?post)
 case fin=>
  rintro c cF ⟨lo,rfl,R,h⟩;have:=R.hlo;have e:lo=a0.size:=by lia
  subst e;exact⟨rfl,R⟩
 case step=>
  rintro x c cF _ hx ⟨lo,rfl,R,h⟩
  try dsimp only
  have Bo:=R.hlo;by_cases c1:lo≥a0.size
  ·rw[aC c1];have e:lo=a0.size:=by lia
   subst e;exact aX ⟨rfl,R⟩
  rw[aI c1];have sz:=R.size;refine aP (a4b H (d:=d) R.sb (by lia) (by lia) λm kX B2 m1 m2 A2=>?_)
  try dsimp only
  by_cases c2:m<minRun' a0.size a0.size 0
  case' pos=>
   rw[aC c2];refine aP (R1 ?_);have f1:lo+min (a0.size-lo) (minRun' a0.size a0.size 0)<=a0.size:=by lia
   have f2:m<=min (a0.size-lo) (minRun' a0.size a0.size 0):=by lia
   generalize min (a0.size-lo) (minRun' a0.size a0.size 0)=n at f1 f2 ⊢;refine aP (a2q H (d:=d) B2 (by lia) (by lia) f2 A2 λjS B3 A3=>?_);simp only[fH,bF,dw];have n0:0<n:=by lia
   have R3:=R.ofSB B3;have u3:=A3.up
  case' neg=>
   rw[aI c2];obtain⟨n,en⟩:∃n,n=m:=⟨m,rfl⟩;obtain⟨jS,es⟩:∃jS,jS=kX:=⟨kX,rfl⟩;rw[<-en,<-es];have n0:0<n:=by lia
   have f1:lo+n<=a0.size:=by lia
   have R3:RI S κ ky a0 jS lo:=by rw[es];exact R.ofSB B2
   have u3:UpR ky (aY jS) lo n:=by rw[es,en];exact A2.up
  all_goals
   refine aP (nz ?_);have fin:∀lz:dh,RI S κ ky a0 lz lo->UpR ky (aY lz) lo n->∃zk,(p4,lo+n)=((p4,zk):Option Unit×Nat)/\RI S κ ky a0 (setPending lz ((cy lz).push (lo,n,0))) zk/\x+1<=zk:=λlz R4 u4=>⟨lo+n,rfl,R4.push n0 f1 u4,by lia⟩
   cases hb:(cy jS).back? with
   |none=>
    try dsimp only
    exact aP (mR (aX (fin _ R3 u3)))
   |some r=>
    obtain⟨s1,n1,Hj⟩:=r
    try dsimp only
    refine aP (gd (dD (I:=λ_ c lz=>c=(p4,())/\RI S κ ky a0 lz lo/\UpR ky (aY lz) lo n) (Q:=λc lz=>c=(p4,())/\RI S κ ky a0 lz lo/\UpR ky (aY lz) lo n) ?_ (λ_ _ hh=>hh) ⟨rfl,R3,u3⟩) ?_)
    ·rintro y c lz _ _ ⟨rfl,R4,u4⟩
     try dsimp only
     refine aP (nz ?_);by_cases c3:(cy lz).size>1
     ·rw[aC c3,bt (by lia)];generalize (cy lz)[(cy lz).size-2]'(by lia)=r2;obtain⟨s2,n2,wm⟩:=r2
      try dsimp only
      by_cases c4:wm<=power' a0.size (2*s1+n1) (2*s1+n1+n1+n) a0.size
      ·rw[aC c4];exact aX ⟨rfl,R4,u4⟩
      ·rw[aI c4];refine aP (R4.merge H (by lia) λqR R5 o5 _=>?_);simp only[fH,bF,dw];exact aX ⟨rfl,R5,u4.congr λt t1 _=>o5 t t1⟩
     ·rw[aI c3];exact aX ⟨rfl,R4,u4⟩
    ·rintro c lz ⟨rfl,R4,u4⟩
     try dsimp only
     exact aP (mR (aP (mR (aX (fin _ (R4.pend (a4c _ _ _)) u4)))))
 case post=>
  rintro c cF ⟨rfl,R⟩
  try dsimp only
  have cl:=R.ch.len;rw[a0m,ag,aD]at cl;refine aP (gd (dD (I:=λx c fL=>c=(p4,())/\RI S κ ky a0 fL a0.size/\(cy fL).size+x<=a0.size) (Q:=λc fL=>c=(p4,())/\RI S κ ky a0 fL a0.size/\(cy fL).size<=1) ?_ ?_ ⟨rfl,R,by lia⟩) ?_)
  ·rintro x c fL _ hx ⟨rfl,R2,h2⟩
   try dsimp only
   refine aP (nz ?_);by_cases c1:(cy fL).size<=1
   ·rw[aC c1];exact aX ⟨rfl,R2,c1⟩
   rw[aI c1];refine aP (R2.merge H (b4U (by lia) (by lia)) λqR R5 _ e5=>?_);simp only[fH,bF,dw];exact aX ⟨rfl,R5,by lia⟩
  ·rintro c fL ⟨rfl,R2,h2⟩;exact⟨rfl,R2,by lia⟩
  ·rintro c fL ⟨rfl,R2,h2⟩;refine aX (q fL R2.pm R2.fl ?_);have ch:=R2.ch;have sz:=R2.size;unfold a0m at ch;generalize hp:(cy fL).toList=l at ch;have hl:l.length<=1:=by rw[<-hp,aD];exact h2
   match l,hl,ch with
   |[],_,ch=>
    have ch:0=a0.size:=ch;intro i j hj iH;lia
   |[(x,n,pw)],_,⟨e1,_,u,e2⟩=>
    have e2:x+n=a0.size:=e2;intro i j hj iH;exact u i j hj iH (by dsimp only at e1 ⊢;lia) (by dsimp only at e1 ⊢;lia)
end
end VS
namespace VS
open PySem PyProof.Rows
open PySem.W (kas_item)
def b0w{α β:Type}{f:α->β}{l l':List β}(h:l.Perm l'):∀m:List α,l'=m.map f->∃m':List α,m'.Perm m/\l=m'.map f:=by
 induction h with
 |nil=>intro m e;exact⟨m,gT _,e⟩
 |cons x _ ih=>
  intro m e
  match m,e with
  |y::m,e=>
   rw[aA,jK]at e;obtain⟨m',p,e2⟩:=ih m e.2;exact⟨y::m',p.cons y,by rw[aA,e.1,e2]⟩
 |swap x y l=>
  intro m e
  match m,e with
  |a::b::m,e=>
   rw[aA,aA,jK,jK]at e;exact⟨b::a::m,rP a b m,by rw[aA,aA,e.1,e.2.1,e.2.2]⟩
 |trans _ _ zt zr=>
  intro m e;obtain⟨m1,p1,e1⟩:=zr m e;obtain⟨m2,p2,e2⟩:=zt m1 e1;exact⟨m2,p2.trans p1,e2⟩
section
variable {prog:bA}{w:bX}{A:bL}{E:aj->aq->Prop}{s:aq}{κ:eW}{O:KeyOrd}{key:Nat->O.α}{ks vs:List aj}
noncomputable def b4V(key:Nat->O.α)(ks:List aj)(x:bR):O.α:=
 open Classical in if h : ∃ i, i<ks.length /\ ks.getD i bb = x.1 then key h.choose else key 0
def a5L(cong:∀i j,i<ks.length->j<ks.length->ks.getD i bb=ks.getD j bb->key i=key j){x:bR}(hi:i<ks.length)(e:ks.getD i bb=x.1):b4V key ks x=key i:=by
 have h:∃i,i<ks.length/\ks.getD i bb=x.1:=⟨i,hi,e⟩;unfold b4V;rw[dif_pos h];exact cong _ _ h.choose_spec.1 hi (h.choose_spec.2.trans e.symm)
def b4W(hl:ks.length=vs.length)(gX:∀(i j:Nat) (C:Bool->aq->Prop),i<vs.length->j<vs.length->C (O.blt (key i) (key j)) s->aG (aT prog w) A (keyLt' κ (ks.getD i bb) (ks.getD j bb)) C (λ_ _=>False) s)
  (cong:∀i j,i<ks.length->j<ks.length->ks.getD i bb=ks.getD j bb->key i=key j) :
  aG (aT prog w) A ((sortRuns').run (dh.mk' κ (ks.toArray.zip vs.toArray) #[] 7 p4)) (λr s'=>s'=s/\∃p:Array Nat,aY r.2=p.map (mW (ks.toArray.zip vs.toArray))/\gv r.2=p4/\AllN vs.length p/\b0u key p vs.length) E s:=by
 have zs:(ks.toArray.zip vs.toArray).size=vs.length:=by simp[hl]
 have it:∀i,i<vs.length->mW (ks.toArray.zip vs.toArray) i=(ks.getD i bb,vs.getD i bb):=λi hi=>PySem.W.kat_item hl i
 have hz:∀i (h:i<(ks.toArray.zip vs.toArray).size),(ks.toArray.zip vs.toArray)[i]=(ks.getD i bb,vs.getD i bb):=λi h=>by
  rw[<-it i (by lia)];unfold mW;rw[Bb,dif_pos h];rfl
 have H:CmpS prog w A s κ O (b4V key ks) (λx=>∃i,i<vs.length/\x.1=ks.getD i bb):=⟨λx y ⟨i,hi,ei⟩ ⟨j,hj,ej⟩ C hC=>by
  rw[a5L cong (by lia) ei.symm,a5L cong (by lia) ej.symm]at hC;rw[ei,ej];exact gX i j C hi hj hC⟩
 show uu (aT prog w) A E s sortRuns' (λ_ cF=>∃p:Array Nat,aY cF=p.map (mW (ks.toArray.zip vs.toArray))/\gv cF=p4/\AllN vs.length p/\b0u key p vs.length) (dh.mk' κ (ks.toArray.zip vs.toArray) #[] 7 p4);refine a4d (st:=dh.mk' κ (ks.toArray.zip vs.toArray) #[] 7 p4) H (key 0) (a0:=ks.toArray.zip vs.toArray) ⟨rfl,rfl,Ir _,λi h=>⟨i,?_,?_⟩,rfl,cj _⟩ λcF pm fl up=>?_
 ·have h':i<(ks.toArray.zip vs.toArray).size:=h;lia
 ·show (ks.toArray.zip vs.toArray)[i].1=_;rw[hz]
 have el:(ks.toArray.zip vs.toArray).toList=(aU vs.length).map (mW (ks.toArray.zip vs.toArray)):=by
  apply GZ
  ·rw[aD,ag,dB];exact zs
  intro i h1 h2;rw[bY,fI,List.getElem_range,hz,it i (by rw[aD]at h1;lia)]
 obtain⟨p,pp,pe⟩:=b0w (fP.mp pm) _ el;have hp:AllN vs.length p.toArray:=pp;have ea:aY cF=p.toArray.map (mW (ks.toArray.zip vs.toArray)):=by
  apply Array.toList_inj.mp;rw[Array.toList_map,pe]
 refine⟨p.toArray,ea,fl,hp,λi j iH hj=>?_⟩;have gh:p.length=vs.length:=by have:=pp.length_eq;rw[dB]at this;exact this
 have sz:(aY cF).size=vs.length:=by rw[ea,Array.size_map,bx];exact gh
 have hk:∀t (ht:t<(aY cF).size),b4V key ks (aY cF)[t]=kyP key p.toArray t:=λt ht=>by
  have zF:t<p.length:=by lia
  have hm:p[t]<vs.length:=cw.mp (pp.mem_iff.mp (dt zF));have e1:(aY cF)[t]=mW (ks.toArray.zip vs.toArray) p[t]:=by
   have:(aY cF)[t]?=(p.toArray.map (mW (ks.toArray.zip vs.toArray)))[t]?:=by rw[ea]
   rw[bt ht,Array.getElem?_map]at this;simp only[List.getElem?_toArray,ai zF,Ik,CW]at this;exact this
  rw[e1,it _ hm,a5L cong (i:=p[t]) (by lia) rfl];unfold kyP;simp[Bb,zF]
 have:=up i j (by lia) iH;rw[hk i (by lia),hk j (by lia)]at this;exact this
end
end VS
namespace VS
open PySem PySem.Spec L2
open PyProof.Rows (KeyOrd SortKind SortSt keyKind' keyLt' seqObj listItems_at listUpdate_at seqEpoch_at arrOf failedOf get?_update_seq list_sort_plain general' tuples' size_push' slot_list_sort entry_list_sort args_list_sort kind_sorted plain_sorted entry_sorted args_sorted1)
open PySem.W (kas_sort kas_ask kas_item kat_run kat_snds)
section
variable {prog:bA}{w:bX}{A:bL}{E:aj->aq->Prop}{sh:aq}{vs:List aj}{κ:eW}{O:KeyOrd}{key:Nat->O.α}
def Kept(h h':cf):Prop:=∀b o,h.get? b=cz o->h'.get? b=cz o
def Kept.refl(h:cf):Kept h h:=λ_ _ e=>e
theorem Kept.push(x:Kept h h')(o:gE):Kept h (h'.push o):=λb u e=>af _ (x b u e)
def Kept.upd(x:Kept h h')(f:gE->gE)(ha:h.objs.size<=a):Kept h (h'.update a f):=λb u e=>by
 rw[gM _ _ (fD (bH (aM e) ha))];exact x b u e
structure Sortable (prog:bA) (w:bX) (A:bL) (h0:cf) (ks:List aj) (κ:eW) (O:KeyOrd) (key:Nat->O.α):Prop where
 kind:2<=ks.length->∀(s:aq) (E:aj->aq->Prop) (Q:eW->aq->Prop),Kept h0 s.heap->Q κ s->aG (aT prog w) A (keyKind' ks.toArray) Q E s
 lt:∀(s:aq) (i j:Nat) (C:Bool->aq->Prop),Kept h0 s.heap->i<ks.length->j<ks.length->C (O.blt (key i) (key j)) s->aG (aT prog w) A (keyLt' κ (ks.getD i bb) (ks.getD j bb)) C (λ_ _=>False) s
 cong:∀i j,i<ks.length->j<ks.length->ks.getD i bb=ks.getD j bb->key i=key j
def b2x(S:Sortable prog w A h0 vs κ O key)(sE:Kept h0 sh.heap)(yu:h0.objs.size<=a)(ho:sh.heap.get? a=cz (mS "list" vs.toArray n))(yD:vs.length<65536)
  (q:∀(p:Array Nat) (h':cf) (e:Nat),AllN vs.length p->b0u key p vs.length->Kept h0 h'->sh.heap.objs.size<=h'.objs.size->h'.get? a=cz (mS "list" (p.toList.map λi=>vs.getD i bb).toArray e)->P (.done (.ret .none)) {sh with heap:=h'}) :
  aG (aT prog w) A (Builtin.«list.sort» ⟨[.ref a],[]⟩) P E sh:=by
 rw[list_sort_plain];have vf:a<sh.heap.objs.size:=aM ho;obtain⟨c1,o1⟩:∃c1,(sh.heap.update a (fY λ_=>(#[]:Array aj))).get? a=cz (mS "list" #[] c1):=⟨_,get?_update_seq ho λ_=>#[]⟩;have ot:vs.length<=aV:=by rw[cJ];lia
 refine ab (listItems_at ho rfl (ab (listUpdate_at ho rfl ?_ (by rw[bx];exact ot) (cj _))));refine ab (seqEpoch_at o1 rfl (ab (vW ?_ ot)));refine ab (wpAny_newList ?_ (cj _));refine cx ?_
 let rT:cf:=((sh.heap.update a (fY λ_=>(#[]:Array aj))).push (mS "tuple" vs.toArray 0)).push (mS "list" #[] 0)
 have k2:Kept h0 rT:=((sE.upd _ yu).push _).push _;have o2:rT.get? a=cz (mS "list" #[] c1):=af _ (af _ o1);have z2:sh.heap.objs.size<=rT.objs.size:=by
  show _<=(((sh.heap.update a (fY λ_=>(#[]:Array aj))).push (mS "tuple" vs.toArray 0)).push (mS "list" #[] 0)).objs.size;rw[size_push',size_push',ti];lia
 show aG (aT prog w) A _ P E {sh with heap:=rT};have fin:∀p:Array Nat,AllN vs.length p->b0u key p vs.length->P (.done (.ret .none)) {sh with heap:=rT.update a (fY λ_=>(p.toList.map λi=>vs.getD i bb).toArray)}:=λp hp hu=>by
  obtain⟨c3,o3⟩:∃c3,(rT.update a (fY λ_=>(p.toList.map λi=>vs.getD i bb).toArray)).get? a=cz (mS "list" (p.toList.map λi=>vs.getD i bb).toArray c3):=⟨_,get?_update_seq o2 λ_=>_⟩;exact q p _ c3 hp hu (k2.upd _ yu) (by rw[ti];exact z2) o3
 dsimp only
 by_cases h2:vs.toArray.size<2
 ·rw[aC h2,aC h2];refine ab (ah ?_);rw[StateT.run_pure];refine ab (ah ?_);have rV:vs.length<2:=by simpa using h2
  have f:=fin (List.toArray (aU vs.length)) (gT _) λi j a b=>by
   obtain rfl:i=j:=by lia
   exact eH _
  have e:(List.toArray (aU vs.length)).toList.map (λi=>vs.getD i bb)=vs:=by
   match vs,rV with
   |[],_=>rfl
   |[v],_=>rfl
   |_::_::_,h=>simp at h;lia
  rw[e]at f;have ez:(aY (dh.mk' general' (vs.toArray.zip vs.toArray) #[] 7 p4)).map (·.2)=vs.toArray:=by
   show (vs.toArray.zip vs.toArray).map (·.2)=vs.toArray;simp[List.map_snd_zip]
  dsimp only
  rw[ez];refine ab (seqEpoch_at o2 rfl (ab (listUpdate_at o2 rfl ?_ (cj _) (by rw[bx];exact oR ot))));simp only[CQ,bF,dw];exact ah f
 ·rw[aI h2,aI h2];have HF:¬ vs.length<2:=by simpa using h2
  have rV:2<=vs.length:=by lia
  refine ab (S.kind rV {sh with heap:=rT} _ _ k2 ?_);refine ab (de (b4W (key:=key) rfl (λi j C hi hj hC=>S.lt {sh with heap:=rT} i j C k2 hi hj hC) S.cong) ?_ λ_ _ e=>e);rintro⟨⟨⟩,cF⟩ s' ⟨rfl,p,FO,hf,hp,hu⟩
  dsimp only
  rw[kat_snds rfl FO];have gh:(p.toList.map λi=>vs.getD i bb).length<=aV:=by rw[ag,hp.length_eq,dB];exact ot
  refine ab (seqEpoch_at o2 rfl (ab (listUpdate_at o2 rfl ?_ (cj _) (by rw[bx];exact oR gh))));rw[hf];simp only[CQ,bF,dw];exact ah (fin p hp hu)
def Gives(prog:bA)(w:bX)(A:bL)(sh:aq)(r:aj)(vs:List aj):Prop:=
 ∀(E:aj->aq->Prop) (Q:List aj->aq->Prop),(∀(h':cf) (tk:Nat),Kept sh.heap h'->sh.heap.objs.size<=h'.objs.size->Q vs {sh with heap:=h',toks:=tk})->aG (aT prog w) A (collect r) Q E sh
def b0x(hg:Gives prog w A.in1 sh r vs)(S:Sortable prog w A.in1.in1 sh.heap vs κ O key)(yD:vs.length<65536)
  (q:∀(p:Array Nat) (h':cf) (tk e:Nat) (z:au),AllN vs.length p->b0u key p vs.length->Kept sh.heap h'->sh.heap.objs.size<=z->h'.get? z=cz (mS "list" (p.toList.map λi=>vs.getD i bb).toArray e)->Q (.ref z) {sh with heap:=h',toks:=tk}) :
  aG (aT prog w) A (call (.builtin "sorted") [r]) Q E sh:=by
 refine yN kind_sorted plain_sorted entry_sorted (args_sorted1 _) ?_;unfold Builtin.«sorted»;refine ab (m:=checkCount "sorted" 1 1 _) (ah ?_);refine ab (hg _ _ λh1 tk k1 z1=>?_);refine ab (wpAny_newList ?_ (by rw[cJ];lia));have oL:(h1.push (mS "list" vs.toArray 0)).get? h1.objs.size=cz (mS "list" vs.toArray 0):=aL _ rfl;refine ab (cx (cD slot_list_sort ⟨_,oL,rfl⟩ entry_list_sort (b2x (sh:={sh with heap:=h1.push (mS "list" vs.toArray 0),toks:=tk}) S (k1.push _) z1 oL yD λp h' e hp hu hk hz ho=>⟨_,rfl,?_⟩) (args_list_sort _)));exact ah ⟨_,rfl,q p h' tk e h1.objs.size hp hu hk z1 ho⟩
def a8c(hl:sh.heap.IsList l vs.toArray)(hz:vs.length<=aV):Gives prog w A sh (.ref l) vs:=λE Q q=>
 PyProof.Rows.collect_list hl (q _ sh.toks (((Kept.refl _).push _).upd _ (ay _)) (by rw[ti,size_push'];exact jB _)) hz
def a8d(hh:A.handled=p4)(h0:(d==df)=xn)(hm:sh.heap.RawDict d rows ep)(hz:rows.size<=aV):Gives prog w A sh (.ref d) (rows.toList.map (·.key)):=λE Q q=>by
 have hd:d<sh.heap.objs.size:=let⟨_,hu,_⟩:=hm;aM hu
 have fin:∀(h':cf) (tk:Nat) (acc:Array aj) (c:Nat),(∀b o,b≠sh.heap.objs.size->(sh.heap.push {cls:=.type "list",data:=.seq ([]:List aj).toArray}).get? b=cz o->h'.get? b=cz o)->
   h'.get? sh.heap.objs.size=cz {cls:=.type "list",dict:=p4,data:=.seq acc c,slots:=#[]}->rQ (λi v=>∃e,rows[i]?=cz e/\v=e.key) acc rows.size->Q acc.toList {sh with heap:=h',toks:=tk}:=by
  intro h' tk acc c hk hS jc;have e:acc.toList=rows.toList.map (·.key):=by
   refine kK λi=>?_
   rw[aZ,bE,bE];by_cases c:i<rows.size
   ·obtain⟨x,hx⟩:∃x,acc[i]?=cz x:=⟨_,bt (by rw[jc.1];exact c)⟩;obtain⟨y,h1,h2⟩:=jc.2 i x hx;rw[hx,h1,h2];rfl
   ·rw[gD (by rw[jc.1];lia),gD (by lia)];rfl
  rw[e];exact q h' tk (λb o x=>hk b o (bK (aM x)) (af _ x)) (eB (aM hS))
 unfold collect;refine ab (vV (eR nW ?_));rw[dm PySem.F.plain_proto_collect _];show aG _ A.in1 (newList [] >>= λl=>again (.builtin "list.__iadd__" ⟨[l,.ref d],[]⟩)) _ _ sh;refine ab (eL (ah ⟨gx uk _,eR pY ?_⟩));rw[dm uk _];show aG _ A.in1 (eE (.ref sh.heap.objs.size) (.ref d) (.ref sh.heap.objs.size)) _ _ _;refine de (W.kdl_extend (A:=A) (s:={sh with heap:=sh.heap.push {cls:=.type "list",data:=.seq ([]:List aj).toArray}})
  (R:=λ(g:Result) (s':aq)=>∃(h':cf) (tk:Nat) (acc:Array aj) (c:Nat),g=.ok (.ret (.ref sh.heap.objs.size))/\s'={sh with heap:=h',toks:=tk}/\
   h'.get? sh.heap.objs.size=cz {cls:=.type "list",dict:=p4,data:=.seq acc c,slots:=#[]}/\Q acc.toList {sh with heap:=h',toks:=tk})
  (a8Z (ep:=ep) h0) hh (hm.at λo e=>af _ e) sh.heap.objs.size (fD hd) (fD hd) (.ref sh.heap.objs.size) 0 (aL _ rfl)
  (λh' tk acc c hk hS jc=>⟨h',tk,acc,c,rfl,rfl,hS,fin h' tk acc c hk hS jc⟩) hz) (λg s' x=>?_) λe s' x=>?_
 ·cases g with
  |done f=>
   obtain⟨h',tk,acc,c,e,rfl,hS,qq⟩:=x;cases e
   show aG _ A (load sh.heap.objs.size >>= _) _ _ _;exact ab (vX hS (ah qq))
  |again c₁=>
   refine⟨x.1,jx x.2 λg s₂ y=>?_⟩;obtain⟨h',tk,acc,c,rfl,rfl,hS,qq⟩:=y;show aG _ A (load sh.heap.objs.size >>= _) _ _ _;exact ab (vX hS (ah qq))
 ·obtain⟨_,_,_,_,e',_⟩:=x;cases e'
end
end VS
namespace VS
open PySem PySem.Spec L2
open PyProof.Rows (KeyOrd SortKind keyKind' keyLt' tuples' oneType' IntsAre oneLt')
open PySem.W (KatLex KatTups BoolBack)
def v4:List Int->List Int->Bool
 |[],[]=>xn
 |[],_::_=>rp
 |_::_,[]=>xn
 |a::x,b::y=>if a=b then v4 x y else decide (a<b)
theorem a3j:∀a,v4 a a=xn
 |[]=>rfl
 |a::x=>by rw[v4,aC rfl];exact a3j x
theorem N9:∀a b,v4 a b=xn->v4 b a=xn->a=b
 |[],[],_,_=>rfl
 |[],_::_,h,_=>by cases h
 |_::_,[],_,h=>by cases h
 |a::x,b::y,h1,h2=>by
  rw[v4]at h1 h2;by_cases c:a=b
  ·subst c;rw[aC rfl]at h1 h2;rw[N9 x y h1 h2]
  ·rw[aI c]at h1;rw[aI (λz=>c z.symm)]at h2;have:=zd h1;have:=zd h2;lia
theorem U5:∀a b c,v4 a b=rp->v4 b c=rp->v4 a c=rp
 |[],[],_,h,_=>by cases h
 |[],_::_,[],_,h=>by cases h
 |[],_::_,_::_,_,_=>rfl
 |_::_,[],_,h,_=>by cases h
 |_::_,_::_,[],_,h=>by cases h
 |a::x,b::y,c::z,h1,h2=>by
  rw[v4]at h1 h2 ⊢;by_cases e1:a=b
  ·subst e1;rw[aC rfl]at h1;by_cases e2:a=c
   ·rw[aC e2]at h2 ⊢;exact U5 x y z h1 h2
   ·rw[aI e2]at h2 ⊢;exact h2
  ·rw[aI e1]at h1;have q1:=aR h1;by_cases e2:b=c
   ·subst e2;rw[aI e1];exact h1
   ·rw[aI e2]at h2;have q2:=aR h2;rw[aI (by lia)];exact aE (by lia)
def b0y(h:v4 a b=rp):v4 b a=xn:=by
 cases c:v4 b a with
 |false=>rfl
 |true=>rw[<-a3j a,U5 _ _ _ h c]
def b2y(a b c:List Int)(h:v4 a c=rp):v4 a b=rp\/v4 b c=rp:=by
 cases h1:v4 a b with
 |true=>exact .inl rfl
 |false=>
  refine .inr ?_;cases h2:v4 b a with
  |true=>exact U5 _ _ _ h2 h
  |false=>rw[<-N9 a b h1 h2];exact h
def OI:KeyOrd:=⟨List Int,v4,a3j,U5,b2y,N9⟩
def a8e(fin:Bool):List Int->List Int->Bool
 |n::ns,m::ms=>if n=m then a8e fin ns ms else decide (n<m)
 |_,_=>fin
theorem a9c:∀ns ms:List Int,a8e (decide (ns.length<ms.length)) ns ms=v4 ns ms
 |[],[]=>rfl
 |[],_::_=>by simp[a8e,v4]
 |_::_,[]=>by simp[a8e,v4]
 |n::ns,m::ms=>by
  rw[a8e,v4,<-a9c ns ms];simp
def a6Q(kt:Bool)(h:cf)(v:aj)(ns:List Int):Prop:=
 if kt then ∃a o xs m,v=.ref a/\h.get? a=cz o/\o.cls=.type "tuple"/\o.data=.seq xs m/\IntsAre xs.toList ns else ∃n t,v=.int n t/\ns=[n]
def O7(h:IntsAre vs ns):vs.length=ns.length:=by
 induction h with
 |nil=>rfl
 |cons _ _ _ ih=>rw[ba,ba,ih]
section
variable {prog:bA}{w:bX}{A:bL}{s:aq}{Q:Bool->aq->Prop}
theorem b2z:∀{xs:List aj} {ns:List Int},IntsAre xs ns->∀{ys:List aj} {ms:List Int},IntsAre ys ms->∀(i:Nat) (b fin:Bool),Q (a8e fin ns ms) s->KatLex prog w A b fin Q (xs.zip ys) i s
 |_,_,.nil,_,_,_,_,_,_,q=>q
 |_,_,.cons _ _ _,_,_,.nil,_,_,_,q=>q
 |_,_,.cons n t hx,_,_,.cons m t' hy,i,b,fin,q=>by
  rw[eN];refine W.kat_cons (sg ?_);rw[a8e]at q;by_cases c:n=m
  ·rw[aC c]at q;rw[show (n==m)=rp by simp[c]];exact W.kat_yes (b2z hx hy (i+1) b fin q)
  ·rw[aI c]at q;rw[show (n==m)=xn by simp[c]];refine W.kat_no ?_;cases b&&i==0 with
   |true=>exact PyProof.Rows.oneLt_int q
   |false=>exact W.kat_one _ _ (wpAny_lt_int q)
theorem a9d:∀{vs:List aj} {nss:List (List Int)},vs.length=nss.length->(∀i,i<vs.length->a6Q rp h (vs.getD i bb) (nss.getD i []))->(∀i,i<vs.length->nss.getD i []≠[])->
  ∃fs,KatTups h vs fs/\fs.length=vs.length/\∀v∈fs,∃n t,v=iy n t
 |[],_,_,_,_=>⟨[],trivial,rfl,λ_ h=>(nomatch h)⟩
 |v::vs,[],hl,_,_=>by simp at hl
 |v::vs,ns::nss,hl,hv,gN=>by
  obtain⟨fs,h1,h2,h3⟩:=a9d (vs:=vs) (nss:=nss) (by simpa using hl) (λi hi=>by have:=hv (i+1) (by simpa using hi);simpa using this) λi hi=>by have:=gN (i+1) (by simpa using hi);simpa using this
  obtain⟨a,o,xs,m,e,ho,hc,hd,hx⟩:=(show a6Q rp h v ns from hv 0 (GS _));have hn:ns≠[]:=gN 0 (GS _);obtain⟨x,uF,n,t,Ei⟩:∃x,xs[0]?=cz x/\∃n t,x=iy n t:=by
   cases uD:xs.toList with
   |nil=>rw[uD]at hx;cases hx;exact absurd rfl hn
   |cons x r=>
    rw[uD]at hx;cases hx with
    |cons n t _=>exact⟨_,by rw[<-bE,uD];rfl,n,t,rfl⟩
  refine⟨x::fs,⟨⟨a,o,xs,m,e,ho,hc,hd,uF⟩,h1⟩,by rw[ba,ba,h2],λy hy=>?_⟩;rcases aF.mp hy with z|z
  ·rw[z];exact⟨n,t,Ei⟩
  ·exact h3 y z
def a5M(x:a6Q kt h v ns)(k:Kept h h'):a6Q kt h' v ns:=by
 cases kt with
 |false=>exact x
 |true=>
  obtain⟨a,o,xs,m,e,ho,r⟩:=(show ∃a o xs m,v=.ref a/\h.get? a=cz o/\o.cls=.type "tuple"/\o.data=.seq xs m/\IntsAre xs.toList ns from x);exact (show ∃a o xs m,v=.ref a/\h'.get? a=cz o/\o.cls=.type "tuple"/\o.data=.seq xs m/\IntsAre xs.toList ns from⟨a,o,xs,m,e,k _ _ ho,r⟩)
def a6R(h:IntsAre vs ns)(g:IntsAre vs ms):ns=ms:=by
 induction h generalizing ms with
 |nil=>cases g;rfl
 |cons n t _ ih=>cases g with|cons _ _ g=>rw[ih g]
def b2A(x:a6Q kt h v ns)(y:a6Q kt h v ms):ns=ms:=by
 cases kt with
 |false=>
  obtain⟨n,t,rfl,rfl⟩:=(show ∃n t,v=.int n t/\ns=[n] from x);obtain⟨m,u,e,rfl⟩:=(show ∃m u,iy n t=.int m u/\ms=[m] from y);cases e
  rfl
 |true=>
  obtain⟨a,o,xs,m,rfl,ho,_,hd,hx⟩:=(show ∃a o xs m,v=.ref a/\h.get? a=cz o/\o.cls=.type "tuple"/\o.data=.seq xs m/\IntsAre xs.toList ns from x);obtain⟨b,o',ys,m',e,nS,_,lY,hy⟩:=(show ∃b o xs m,be a=.ref b/\h.get? b=cz o/\o.cls=.type "tuple"/\o.data=.seq xs m/\IntsAre xs.toList ms from y);cases e
  rw[ho]at nS;cases nS
  rw[hd]at lY;cases lY
  exact a6R hx hy
def b6h(kt:Bool):eW:=if kt then tuples' rp else oneType'
def a4e{vs:List aj}{nss:List (List Int)}(hl:vs.length=nss.length)(hv:∀i,i<vs.length->a6Q kt h0 (vs.getD i bb) (nss.getD i []))
  (gN:kt=rp->2<=vs.length->∀i,i<vs.length->nss.getD i []≠[]):Sortable prog w A h0 vs (b6h kt) OI (λi=>nss.getD i []) where
 kind:=λh2 s E Q hk q=>by
  cases kt with
  |false=>
   refine W.kas_kind (T:=ie "int") h2 (λv vF=>?_) rfl rfl q;obtain⟨i,hi⟩:=bS.mp vF;have gX:=(aN.mp hi).1;obtain⟨n,t,e,_⟩:=(show ∃n t,vs.getD i bb=.int n t/\nss.getD i []=[n] from hv i gX);rw[aB,hi]at e;cases e
   exact λA Q E s _ q=>ah q
  |true=>
   obtain⟨fs,h1,jL,h3⟩:=a9d hl (λi hi=>a5M (hv i hi) hk) (gN rfl h2);refine W.kat_kind (T:=ie "int") h1 (by lia) (λv vF=>?_) rfl q;obtain⟨n,t,rfl⟩:=h3 v vF;exact λA Q E s _ q=>ah q
 cong:=λi j hi hj e=>b2A (hv i hi) (by rw[e];exact hv j hj)
 lt:=λs i j C hk hi hj q=>by
  have vi:=a5M (hv i hi) hk;have vj:=a5M (hv j hj) hk;cases kt with
  |false=>
   obtain⟨n,t,e1,e2⟩:=(show ∃n t,vs.getD i bb=.int n t/\nss.getD i []=[n] from vi);obtain⟨m,t',e3,e4⟩:=(show ∃n t,vs.getD j bb=.int n t/\nss.getD j []=[n] from vj);rw[e1,e3];refine W.kat_lt_int ?_;have q':C (v4 (nss.getD i []) (nss.getD j [])) s:=q;rw[e2,e4,v4]at q';by_cases c:n=m
   ·rw[aC c]at q';rw[show decide (n<m)=xn from aW (by lia)];exact q'
   ·rw[aI c]at q';exact q'
  |true=>
   obtain⟨a,o,xs,k,e1,ho,hc,hd,hx⟩:=(show ∃a o xs m,vs.getD i bb=.ref a/\s.heap.get? a=cz o/\o.cls=.type "tuple"/\o.data=.seq xs m/\IntsAre xs.toList (nss.getD i []) from vi);obtain⟨a',o',ys,k',e2,nS,vd,lY,hy⟩:=(show ∃a o xs m,vs.getD j bb=.ref a/\s.heap.get? a=cz o/\o.cls=.type "tuple"/\o.data=.seq xs m/\IntsAre xs.toList (nss.getD j []) from vj);rw[e1,e2];refine W.kat_lt ho hd nS lY (b2z hx hy 0 rp _ ?_);have z1:=O7 hx;have z2:=O7 hy;rw[aD]at z1 z2;rw[z1,z2,a9c];exact q
end
end VS
namespace VS
open PySem PySem.Spec L2
open PyProof.Rows (IntsAre seqObj)
def b0z(n:List Int):List (List Int)->List (List Int)
 |[]=>[n]
 |m::ms=>if v4 m n then m::b0z n ms else n::m::ms
def W5:List (List Int)->List (List Int)
 |[]=>[]
 |n::ns=>b0z n (W5 ns)
def leL(a b:List Int):Prop:=v4 b a=xn
def b0A(h1:leL a b)(h2:leL b c):leL a c:=PyProof.Rows.KeyOrd.kle_trans (O:=OI) h1 h2
theorem a1z(n:List Int):∀ms,(b0z n ms).Perm (n::ms)
 |[]=>gT _
 |m::ms=>by
  unfold b0z;by_cases c:v4 m n=rp
  ·rw[aC c];exact ((a1z n ms).cons m).trans (rP n m ms)
  ·rw[aI c]
theorem E9:∀ns,(W5 ns).Perm ns
 |[]=>gT _
 |n::ns=>(a1z n (W5 ns)).trans ((E9 ns).cons n)
theorem a1X(n:List Int):∀ms:List (List Int),ms.Pairwise leL->(b0z n ms).Pairwise leL
 |[],_=>eZ ..
 |m::ms,h=>by
  unfold b0z;obtain⟨h1,h2⟩:=fN.mp h;by_cases c:v4 m n=rp
  ·rw[aC c];refine fN.mpr ⟨λx hx=>?_,a1X n ms h2⟩;rcases aF.mp ((a1z n ms).mem_iff.mp hx) with z|z
   ·rw[z];exact b0y c
   ·exact h1 x z
  ·rw[aI c];have BZ:leL n m:=by simpa[leL]using c
   refine fN.mpr ⟨λx hx=>?_,h⟩;rcases aF.mp hx with z|z
   ·rw[z];exact BZ
   ·exact b0A BZ (h1 x z)
theorem O8:∀ns:List (List Int),(W5 ns).Pairwise leL
 |[]=>kL
 |n::ns=>a1X n _ (O8 ns)
def b0B{a b:List (List Int)}(hp:a.Perm b)(ha:a.Pairwise leL):a=W5 b:=
 s_ (λx y _ _ h1 h2=>N9 _ _ h2 h1) ha (O8 b) (hp.trans (E9 b).symm)
def kD(kt:Bool)(ns:List Int):D:=if kt then .tuple (ns.map .int) else .int (ns.headD 0)
def b7W(kt:Bool):D->Option (List Int)
 |.int n=>if kt then p4 else cz [n]
 |.tuple ds=>if kt then intsOf ds else p4
 |_=>p4
def a3k(kt:Bool):List D->Option (List (List Int))
 |[]=>cz []
 |d::ds=>(b7W kt d).bind λns=>(a3k kt ds).bind λr=>cz (ns::r)
def okK(kt:Bool)(nss:List (List Int)):Bool:=decide (nss.length<65536)&&(!kt||decide (nss.length<2)||nss.all λns=>!ns.isEmpty)
def a3l(kt:Bool)(ks:List D):Option D:=(a3k kt ks).bind λnss=>if okK kt nss then cz (.list ((W5 nss).map (kD kt))) else p4
def b0C(h:b7W kt d=cz ns):d=kD kt ns/\(kt=xn->ns.length=1):=by
 cases d with
 |int n=>
  cases kt with
  |true=>cases h
  |false=>cases h;exact⟨rfl,λ_=>rfl⟩
 |tuple ds=>
  cases kt with
  |false=>cases h
  |true=>
   have h':intsOf ds=cz ns:=h;cases E8 h'
   exact⟨rfl,λz=>by cases z⟩
 |_=>cases h
theorem a0n:∀{ds:List D} {nss:List (List Int)},a3k kt ds=cz nss->ds=nss.map (kD kt)/\(kt=xn->∀ns∈nss,ns.length=1)
 |[],nss,h=>by cases h;exact⟨rfl,λ_ _ z=>(nomatch z)⟩
 |d::ds,nss,h=>by
  obtain⟨ns,h1,h⟩:=bnd (show (b7W kt d).bind _=cz nss from h);obtain⟨r,h2,h3⟩:=bnd h;cases h3
  obtain⟨e1,e2⟩:=b0C h1;obtain⟨e3,e4⟩:=a0n h2;refine⟨by rw[aA,<-e1,<-e3],λz x hx=>?_⟩;rcases aF.mp hx with y|y
  ·rw[y];exact e2 z
  ·exact e4 z x y
def b7X(kt:Bool)(ns:List Int):imm (kD kt ns)=rp:=by
 cases kt with
 |false=>simp only[kD,bF,dw,imm]
 |true=>simp only[kD,jt,imm];exact b7O ns
theorem a5N(kt:Bool):∀nss:List (List Int),e7 (nss.map (kD kt))=rp
 |[]=>by simp only[cV,e7]
 |ns::nss=>by simp only[aA,e7,b7X,a5N kt nss,gg]
def W6:∀{ns:List Int} {xs:List V},DenAll K H xs (ns.map .int)->xs=ns.map V.int:=by
 intro ns
 induction ns with
 |nil=>intro xs h;exact h.nil_inv
 |cons n ns ih=>
  intro xs h;obtain⟨v,r,rfl,h1,h2⟩:=h.cons_inv;rw[h1.int_inv,ih h2];rfl
section
variable {X:Cx}{pins:List (au×gE)}{Y:L2.St}{H:Hp}{s:aq}
def b4X(I:Inv X pins Y H s)(h:Den X.K H v (kD kt ns))(r:RelV v u)(h1:kt=xn->ns.length=1):a6Q kt s.heap u ns:=by
 cases kt with
 |false=>
  have h':Den X.K H v (.int (ns.headD 0)):=h;rw[h'.int_inv]at r;obtain⟨t,rfl⟩:=r;refine (show ∃n t',iy (ns.headD 0) t=.int n t'/\ns=[n] from⟨_,_,rfl,?_⟩)
  match ns,h1 rfl with
  |[n],_=>rfl
 |true=>
  have h':Den X.K H v (.tuple (ns.map .int)):=h;obtain⟨a,xs,rfl,h2,h3⟩:=h'.tup_inv;cases W6 h3
  cases (show u=be a from r)
  obtain⟨cQ,rv,⟨o,ho,hc,n,hd⟩,_⟩:=I.tuple h2;exact (show ∃a' o xs m,be a=.ref a'/\s.heap.get? a'=cz o/\o.cls=.type "tuple"/\o.data=.seq xs m/\IntsAre xs.toList ns from⟨a,o,cQ.toArray,n,rfl,ho,hc,hd,by simpa using a1u rv⟩)
def b4Y{key:Nat->List Int}{p:Array Nat}(hp:AllN N p)(hu:b0u (O:=OI) key p N):(p.toList.map key).Pairwise leL:=by
 rw[kE];intro i j hi hj iH;rw[ag,aD,hp.size]at hi hj;have z:=hu i j (eB iH) hj;have e:∀k (hk:k<N),kyP (O:=OI) key p k=(p.toList.map key)[k]'(by rw[ag,aD,hp.size];exact hk):=λk hk=>by
  have rW:k<p.size:=by rw[hp.size];exact hk
  simp only[kyP,fI,bY]
  congr 1;simp[Bb,rW]
 rw[e i hi,e j hj]at z;exact z
def a4f:∀{l:List α} {p:List Nat},p.Perm (aU l.length)->(p.map λi=>l.getD i d).Perm l:=by
 intro l p h;refine (h.map _).trans (Iq ?_);refine kK λi=>?_
 rw[aZ];by_cases c:i<l.length
 ·rw[ic c,Ik,ai c,aB,ai c];rfl
 ·rw[gG (by simpa using c),gG (by simpa using c)];rfl
def sorted_out{nss:List (List Int)}(I:Inv X pins Y H s)(hg:Gives X.prog X.w X.A.in1 s r us)(rv:Vals xs us)(hd:DenAll X.K H xs (nss.map (kD kt)))
  (h1:kt=xn->∀ns∈nss,ns.length=1) (hk:okK kt nss=rp) (q:∀z out,H z=p4->DenAll X.K H out ((W5 nss).map (kD kt))->Q (.ref z) (upd H z (.lst out))) :
  aG (aT X.prog X.w) X.A (call (.builtin "sorted") [r]) (EP X pins Y Q) X.xe s:=by
 have hlen:xs.length=nss.length:=by rw[hd.length,ag]
 have BM:us.length=nss.length:=by rw[<-rv.length];exact hlen
 rw[okK,ar]at hk;have yD:nss.length<65536:=aR hk.1;have rel:∀i,i<us.length->RelV (xs.getD i .non) (us.getD i bb)/\Den X.K H (xs.getD i .non) (kD kt (nss.getD i [])):=λi hi=>by
  have lA:i<nss.length:=by lia
  have e1:(nss.map (kD kt))[i]?=cz (kD kt (nss.getD i [])):=by rw[aZ,ai lA,aB,ai lA];rfl
  obtain⟨v,hv,dv⟩:=hd.get e1;obtain⟨u,hu,ru⟩:=rv.get hv;rw[aB,hv,aB,hu];exact⟨ru,dv⟩
 refine b0x (κ:=b6h kt) (O:=OI) (key:=λi=>nss.getD i []) hg (a4e BM (λi hi=>b4X I (rel i hi).2 (rel i hi).1 λz=>?_) λEX h2 i hi=>?_) (by lia) λp h' tk e z hp hu Aa hz ho=>?_
 ·have lA:i<nss.length:=by lia
  rw[aB,ai lA];exact h1 z _ (dt lA)
 ·have lA:i<nss.length:=by lia
  have hb:=hk.2;rw[EX]at hb;have jL:¬ nss.length<2:=by lia
  simp only[fH,tw,aW jL,bD,fm,List.isEmpty_eq_false_iff]at hb;rw[aB,ai lA];exact hb _ (dt lA)
 ·rw[BM]at hp hu;have sI:H z=p4:=I.hok.fresh hz;have gh:p.toList.length=nss.length:=by rw[hp.length_eq,dB]
  have hv:Vals (p.toList.map λi=>xs.getD i .non) (p.toList.map λi=>us.getD i bb):=by
   refine U4 (by rw[ag,ag]) λi x u g1 g2=>?_
   rw[aZ]at g1 g2;obtain⟨j,j1,rfl⟩:=eA.mp g1;rw[j1]at g2;cases g2
   have:j∈aU nss.length:=hp.mem_iff.mp (bz j1);exact (rel j (by have:=cw.mp this;lia)).1
  refine⟨.ref z,_,I.laid (a:=z) (o:=.lst (p.toList.map λi=>xs.getD i .non)) (t':=tk) Aa hz ⟨by rw[ag,gh,cJ];lia,_,e,hv,ho⟩,rfl,q z _ sI ?_⟩;rw[<-b0B (a:=p.toList.map λi=>nss.getD i []) (a4f hp) (b4Y hp hu),bN];have:∀l:List Nat,(∀j∈l,j<nss.length)->DenAll X.K H (l.map λi=>xs.getD i .non) (l.map (kD kt ∘ λi=>nss.getD i [])):=by
   intro l
   induction l with
   |nil=>intro _;exact denAll_nil
   |cons j l ih=>intro hj;exact denAll_cons (rel j (by have:=hj j av;lia)).2 (ih λk hk=>hj k (aw _ hk))
  exact this _ λj hj=>cw.mp (hp.mem_iff.mp hj)
end
section
variable {X:Cx}{M:List Md}{a:Expr}{fa:EvE}{ca:Cat}{pos p:fQ}
def a8f(hc:X.calm=rp)(kt:Bool):CallR X (.builtin "sorted") (λxs H Q=>∃p es nss,xs=[.ref p]/\H p=cz (c6 p es)/\DenAll X.K H (es.map (·.2.1)) (nss.map (kD kt))/\(kt=xn->∀ns∈nss,ns.length=1)/\okK kt nss=rp/\∀z out,H z=p4->DenAll X.K H out ((W5 nss).map (kD kt))->Q (.ref z) (upd H z (.lst out))):=by
 intro pins s Y H xs us Q I rv h;obtain⟨p,es,nss,rfl,hH,hd,h1,hk,q⟩:=h;obtain⟨u,rfl,rx⟩:=vals1 rv;cases (show u=be p from rx)
 obtain⟨h0,hl,hn,o,ents,ep,g1,g2,g3,g4⟩:=n9 I hH;refine sorted_out I (a8d (by simpa using I.ok.hd hc) h0 ⟨o,g1,g2,g3⟩ (by have z:=cS g4;have z2:ents.toList.length=ents.size:=aD;lia)) ?_ hd h1 hk q;have:∀{es:List (D×V×V)} {l:List eY},fB M8 es l->Vals (es.map (·.2.1)) (l.map (·.key)):=by
  intro es l h
  induction h with
  |nil=>exact .nil
  |cons r _ ih=>exact .cons r.2.1 ih
 exact this g4
def a8g(kt:Bool):CallR X (.builtin "sorted") (λxs H Q=>∃p ys nss,xs=[.ref p]/\SqX X.K H p ys/\DenAll X.K H ys (nss.map (kD kt))/\(kt=xn->∀ns∈nss,ns.length=1)/\okK kt nss=rp/\∀z out,H z=p4->DenAll X.K H out ((W5 nss).map (kD kt))->Q (.ref z) (upd H z (.lst out))):=by
 intro pins s Y H xs us Q I rv h;obtain⟨p,ys,nss,rfl,hp,hd,h1,hk,q⟩:=h;obtain⟨u,rfl,rx⟩:=vals1 rv;cases (show u=be p from rx)
 obtain⟨hz,cQ,n,uz,ho⟩:=hp.ok I;exact sorted_out I (a8c ⟨_,ho,rfl,n,rfl⟩ (by rw[<-uz.length];exact hz)) uz hd h1 hk q
def b2B:D->Option (List D)
 |.dict kvs=>cz (kvs.map (·.1))
 |_=>p4
noncomputable def K5(kt:Bool)(a:EvE):EvE:=λU=>(a U).bind λd=>(b2B d).bind (a3l kt)
noncomputable def a5O(kt:Bool)(a:EvE):EvE:=λU=>(a U).bind λd=>(asL d).bind (a3l kt)
theorem O9:∀{kvs:List (D×D)} {es:List (D×V×V)},DenKV K H es kvs->DenAll K H (es.map (·.2.1)) (kvs.map (·.1))
 |[],es,h=>by
  simp only[DenKV]at h;subst h;exact denAll_nil
 | (k,d)::r,es,h=>by
  simp only[DenKV]at h;obtain⟨e,q,rfl,h2,h3,h4,h5⟩:=h;exact denAll_cons h3 (O9 h5)
def a3m(kt:Bool)(hc:X.calm=rp)(hm:X.mg "sorted"=p4)(ha:PX X M a fa ca)(hg:Gl X "sorted":=by rfl)(he:ao [a] X.env=(xn,cG a X.env)::ao [] X.env:=by rfl)(gh:(cC pos (ao [] X.env)).any (·.1)=xn:=by rfl) :
  PX X M (.Call (.Name "sorted" p) [a] [] pos) (K5 kt fa) (.new (.l .i)):=by
 obtain⟨ta,pa,qa⟩:=ha.out;refine .mk ⟨_,Q0 (a8f hc kt) hg hm PyProof.Rows.Boot.«sorted» (k9 pa o7 he) (by decide) (by decide) he gh,λU Y H P F d Q S hf q=>?_⟩;obtain⟨x,h1,g1⟩:=bnd hf;obtain⟨ks,h2,g2⟩:=bnd g1;obtain⟨nss,h3,g3⟩:=bnd (show (a3k kt ks).bind _=cz d from g2);obtain⟨e1,e2⟩:=a0n h3;by_cases c:okK kt nss=rp
 ·rw[aC c]at g3;cases g3
  cases x with
  |dict kvs=>
   cases h2
   refine qa U Y H P F _ _ S h1 λv H1 w1 r1=>?_
   obtain⟨pp,es,rfl,k1,k2⟩:=r1.den.dict_inv;refine⟨pp,es,nss,rfl,k1,by rw[<-e1];exact O9 k2,e2,c,λz out hz ho=>q _ _ (w1.trans (j6 hz _)) ?_⟩;exact J1 ho (a5N kt _) w1 hz (S.lst' w1)
  |_=>cases h2
 ·rw[aI c]at g3;cases g3
def b2C(kt:Bool)(hm:X.mg "sorted"=p4)(ha:PX X M a fa ca)(hg:Gl X "sorted":=by rfl)(he:ao [a] X.env=(xn,cG a X.env)::ao [] X.env:=by rfl)(gh:(cC pos (ao [] X.env)).any (·.1)=xn:=by rfl) :
  PX X M (.Call (.Name "sorted" p) [a] [] pos) (a5O kt fa) (.new (.l .i)):=by
 obtain⟨ta,pa,qa⟩:=ha.out;refine .mk ⟨_,Q0 (a8g kt) hg hm PyProof.Rows.Boot.«sorted» (k9 pa o7 he) (by decide) (by decide) he gh,λU Y H P F d Q S hf q=>?_⟩;obtain⟨x,h1,g1⟩:=bnd hf;obtain⟨ks,h2,g2⟩:=bnd g1;obtain⟨nss,h3,g3⟩:=bnd (show (a3k kt ks).bind _=cz d from g2);obtain⟨e1,e2⟩:=a0n h3;by_cases c:okK kt nss=rp
 ·rw[aC c]at g3;cases g3
  cases J9 h2
  refine qa U Y H P F _ _ S h1 λv H1 w1 r1=>?_
  obtain⟨pp,ys,rfl,k1,k2⟩:=r1.den.list_inv;refine⟨pp,ys,nss,rfl,k1,by rw[<-e1];exact k2,e2,c,λz out hz ho=>q _ _ (w1.trans (j6 hz _)) ?_⟩;exact J1 ho (a5N kt _) w1 hz (S.lst' w1)
 ·rw[aI c]at g3;cases g3
end
end VS
namespace VS
open PySem PySem.Spec L2
section
variable {K:ae}{H:Hp}{F:List au}{kt:Bool}{u:Ty}
def K0(oY:a∈F)(o:HO):Same (cut H F) (cut (upd H a o) F):=λb o' hb=>by
 obtain⟨n1,n2⟩:=p5 hb;exact j5 n1 (by rw[f7 (show b≠a from λz=>n1 (z▸oY))];exact n2)
def b2D(o:Own K H F (.d kt u) (.ref a) (.dict kvs) f)(sJ:∀b∈f,b∈F)(kc:(fv++f).Nodup)(hk:keyOk kt k)(w_:Den K (cut H F) kv k)(ov:Own K H F u v d fv) :
  ∃es,H a=cz (c6 a es)/\(∀e∈es,keyOk kt e.1/\Den K (cut H F) e.2.1 e.1)/\es.length=kvs.length/\a∈f/\∃f',Own K (upd H a (c6 a (Q7 es k kv v))) F (.d kt u) (.ref a) (.dict (n4 kvs k d)) f'/\∀b,f'.count b<=f.count b+fv.count b:=by
 obtain⟨a',es,ds,fs,ea,r2,r3,rfl,r5,r6,hl,hn⟩:=o.dict;cases ea
 injection r3 with r3
 subst r3;have oY:a∈F:=sJ a av;have fX:∀o,Same (cut H F) (cut (upd H a o) F):=K0 oY;have cnt:fs.count a=0/\fv.count a=0:=by
  have:=cO.mp kc a;simp only[bu,gS]at this;exact⟨by lia,by lia⟩
 have kk:∀(l:List au) (o:HO),l.count a=0->∀b∈l,upd H a o b=H b:=λl o hc b hb=>f7 λz=>by
  subst z;rw[dY]at hc;exact hc hb
 have jk:∀e∈es,aH e.1 k=rp↔e.1=k:=λe he=>B6 e.1 k (r5 e he).1.1 hk.1
 have hlen:es.length=((es.map (·.1)).zip ds).length:=by rw[dS,ag,hl,jZ]
 refine⟨es,r2,r5,hlen,av,?_⟩;have fin:∀(fS:List (D×V×V)) (iY:List D) (kN:List au),(fS.map (·.1)).Nodup->(∀e∈fS,keyOk kt e.1/\Den K (cut H F) e.2.1 e.1)->ListAll (Own K (upd H a (c6 a fS)) F u) (fS.map (·.2.2)) iY kN->(∀b,kN.count b<=fs.count b+fv.count b)->
   ∃f',Own K (upd H a (c6 a fS)) F (.d kt u) (.ref a) (.dict ((fS.map (·.1)).zip iY)) f'/\∀b,f'.count b<=(a::fs).count b+fv.count b:=λfS iY kN uR rW ha pH=>by
  refine⟨a::kN,?_,λb=>?_⟩
  ·simp only[Own];exact⟨a,fS,iY,kN,rfl,g9,rfl,rfl,⟨uR,λe he=>⟨(rW e he).1,(rW e he).2.up (fX _)⟩⟩,ha⟩
  ·have:=pH b;simp only[dI];lia
 cases hf:s9 es k with
 |false=>
  rw[a2Y hf,a4y (by rw[w8 hl];exact hf),<-W3 (kv:=kv) (v:=v) hl];refine fin (es++[(k,kv,v)]) (ds++[d]) (fs++fv) ?_ ?_ ?_ λb=>by rw[bu];exact ay _
  ·rw[aQ,bh];refine⟨hn,by simp,λx hx y hy e=>?_⟩;simp only[aA,cV,ak]at hy;subst hy;subst e;obtain⟨e,he,rfl⟩:=bj.mp hx;unfold s9 at hf;rw[cI]at hf;exact hf e he ((jk e he).mpr rfl)
  ·intro e he;rcases az.mp he with z|z
   ·exact r5 e z
   ·rw[ak.mp z];exact⟨hk,w_⟩
  ·rw[aQ];refine (l5 (fX _) r6 (kk _ _ cnt.1)).append ?_;have:=l0 (R:=Own K (upd H a (c6 a (es++[(k,kv,v)]))) F u) (ov.frame (fX _) u (kk _ _ cnt.2)) l7
   rwa[bM]at this
 |true=>
  have hh:=hf;unfold s9 at hf;rw[er]at hf;obtain⟨e,he,gu⟩:=hf;have rj:=(jk e he).mp gu;obtain⟨j,hj⟩:=bS.mp he;have sF:j<ds.length:=by rw[hl];exact (aN.mp hj).1
  have pB:Q7 es k kv v=es.map λe=>if aH e.1 k then (e.1,e.2.1,v) else e:=by unfold Q7;rw[hh];rfl
  have ox:n4 ((es.map (·.1)).zip ds) k d=(es.map (·.1)).zip (ds.set j d):=by
   unfold n4;rw[w8 hl,hh];exact O6 (v:=v) hl jk hn hj rj
  have oB:(Q7 es k kv v).map (·.1)=es.map (·.1):=by rw[pB];exact a0I
  rw[ox,<-oB];obtain⟨w3,f3,a1,a2,s1,s2,rG,s4⟩:=r6.zip (ai sF);have qY:(Q7 es k kv v).map (·.2.2)=(es.map (·.2.2)).set j v:=by
   rw[pB];exact a3a hn jk hj rj
  refine fin (Q7 es k kv v) (ds.set j d) (a1++(fv++a2)) (by rw[oB];exact hn) ?_ ?_ λb=>by rw[rG];simp only[bu];lia
  ·intro e' lW;rw[pB]at lW;obtain⟨e0,va,rfl⟩:=bj.mp lW
   split
   ·exact r5 e0 va
   ·exact r5 e0 va
  ·rw[qY];have c5:(a1++a2).count a=0:=by have:=cnt.1;rw[rG]at this;simp only[bu]at this ⊢;lia
   exact s4 _ F v d fv (kk _ _ c5) (fX _) (ov.frame (fX _) u (kk _ _ cnt.2))
def StR.dval(S:StR K M U Y H P F)(hm:M[i]?=cz (.own (.d kt u)))(hk:keyOk kt k) :
  ∃a0 es ds,Y[i]?=cz (cz (.ref a0))/\H a0=cz (c6 a0 es)/\U.getD i .none=.dict ((es.map (·.1)).zip ds)/\ds.length=es.length/\(∀e∈es,keyOk kt e.1/\Den K (cut H F) e.2.1 e.1)/\(es.map (·.1)).Nodup/\
   ∀e∈es,e.1=k->∃d f,D0 ((es.map (·.1)).zip ds) k=cz d/\Own K H F u e.2.2 d f/\f.Nodup/\(∀b∈f,b∈F)/\
    ∀(H':Hp) (a:au) (o':MuO) (d':D) (f':List au),Same H H'->a∈f->Own K (upd H' a o'.1) F u e.2.2 d' f'->(∀b,f'.count b<=f.count b)->StR K M (U.set i (.dict (n4 ((es.map (·.1)).zip ds) k d'))) Y (upd H' a o'.1) P F:=by
 obtain⟨G,h1,h2,h3⟩:=S.all;obtain⟨dd,oo,f,pre,post,q1,q2,⟨v2,rfl,q3⟩,rfl,q5⟩:=h1.at_ hm;obtain⟨a0,es,ds,fs,rfl,r2,r3,rfl,r5,r6,hl,hn⟩:=q3.dict;refine⟨a0,es,ds,q2,r2,by rw[v8 q1];exact r3,hl,r5,hn,λe he gu=>?_⟩;have jk:∀e∈es,aH e.1 k=rp↔e.1=k:=λe he=>B6 e.1 k (r5 e he).1.1 hk.1
 obtain⟨j,hj⟩:=bS.mp he;have sF:j<ds.length:=by rw[hl];exact (aN.mp hj).1
 obtain⟨w3,f3,a1,a2,s1,s2,rG,s4⟩:=r6.zip (ai sF);have hw:w3=e.2.2:=by rw[aZ,hj]at s1;exact (aK s1).symm
 subst hw;have cnt:∀b,b∈f3->(pre++post).count b=0/\b≠a0/\(a1++a2).count b=0/\f3.count b=1:=λb hb=>by
  have z:=cO.mp h2 b;have z2:=dG.mpr hb;rw[rG]at z;simp only[bu,bw,dI]at z ⊢;refine⟨by lia,λe=>?_,by lia,by lia⟩;subst e;simp only[gY,jt]at z;lia
 have sJ:∀b∈f3,b∈F:=λb hb=>h3 b (by rw[rG];simp[hb])
 refine⟨ds[j],f3,a0J hl jk hn hj gu (ai sF),s2,?_,sJ,λH' a o' d' f' gr ha o hc=>?_⟩
 ·refine cO.mpr λb=>?_
  by_cases c:b∈f3
  ·rw[(cnt b c).2.2.2];exact ay _
  ·rw[dY.mpr c];exact cj _
 ·obtain⟨c1,c2,c3,c4⟩:=cnt a ha;have oY:=sJ a ha;have fX:Same (cut H F) (cut (upd H' a o'.1) F):=(B7 gr).trans (K0 oY _);have kk:∀(l:List au),l.count a=0->(∀b∈l,b∈F)->∀b∈l,upd H' a o'.1 b=H b:=λl hc zZ b hb=>by
   rw[f7 λz=>?_]
   ·exact S.toE.keep gr b (zZ b hb)
   ·subst z;rw[dY]at hc;exact hc hb
  have ox:n4 ((es.map (·.1)).zip ds) k d'=(es.map (·.1)).zip (ds.set j d'):=by
   unfold n4;rw[w8 hl,show s9 es k=rp from er.mpr ⟨e,he,(jk e he).mpr gu⟩];exact O6 (v:=V.non) hl jk hn hj gu
  have uI:(es.map (·.2.2)).set j e.2.2=es.map (·.2.2):=set_same (by rw[aZ,hj];rfl);have o1:Own K (upd H' a o'.1) F (.d kt u) (.ref a0) (.dict ((es.map (·.1)).zip (ds.set j d'))) (a0::(a1++(f'++a2))):=by
   simp only[Own];refine⟨a0,es,ds.set j d',_,rfl,by rw[f7 (dN c2)];exact gr _ _ r2,rfl,rfl,⟨hn,λe he=>⟨(r5 e he).1,(r5 e he).2.up fX⟩⟩,?_⟩;have:=s4 (upd H' a o'.1) F e.2.2 d' f' (kk _ c3 λb hb=>h3 b (by rw[rG];rcases az.mp hb with z|z<;>simp[z])) fX o;rw[uI]at this;exact this
  have q:=q5 (upd H' a o'.1) F (.own (.d kt u)) (.dict ((es.map (·.1)).zip (ds.set j d'))) (cz (.ref a0)) _ (kk _ c1 λb hb=>h3 b (mem_mid hb)) fX ⟨_,rfl,o1⟩;rw[set_same (l:=Y) q2,set_same (l:=M) hm]at q;rw[ox];refine⟨⟨_,q,Q4 h2 λb=>?_,λb hb=>?_⟩,λb hb=>?_,S.prot.trans fX⟩
  ·have:=hc b;rw[rG];simp only[bu,bw,dI];lia
  ·have hp:0<(pre++(a0::fs++post)).count b:=by
    have h0:=dG.mpr hb;have:=hc b;rw[rG];simp only[bu,bw,dI]at h0 ⊢;lia
   exact h3 b (dG.mp hp)
  ·by_cases e:b=a
   ·subst e;exact⟨o',g9⟩
   ·obtain⟨ys,y⟩:=S.lst b hb;exact⟨ys,by rw[f7 e];exact gr _ _ y⟩
def Pend.dnew(h:Pend K ([]++[.own u]) ([]++[d]) ([]++[cz v]) M U Y H P F)(hm:M[i]?=cz (.own (.d kt u)))(hk:keyOk kt k)(wZ:Den K H kv k) :
  ∃a0 es ds fv,Y[i]?=cz (cz (.ref a0))/\H a0=cz (c6 a0 es)/\U.getD i .none=.dict ((es.map (·.1)).zip ds)/\ds.length=es.length/\(∀e∈es,keyOk kt e.1/\Den K (cut H F) e.2.1 e.1)/\(es.map (·.1)).Nodup/\Own K H F u v d fv/\fv.Nodup/\(∀b∈fv,b∈F/\b≠a0)/\
   (s9 es k=xn->∀(H':Hp) (a:au) (o':MuO) (d':D) (f':List au),Same (upd H a0 (c6 a0 (es++[(k,kv,v)]))) H'->a∈fv->Own K (upd H' a o'.1) F u v d' f'->(∀b,f'.count b<=fv.count b)->
    StR K M (U.set i (.dict ((es.map (·.1)).zip ds++[(k,d')]))) Y (upd H' a o'.1) P F):=by
 obtain⟨_,_,S⟩:=h;obtain⟨G,h1,h2,h3⟩:=S.all;have mq:StAll K H F (.own u::M) (d::U) (cz v::Y) G:=by simpa using h1
 simp only[StAll]at mq;obtain⟨d0,U',Ho,Y',fv,G2,e1,e2,rfl,⟨v',e3,ov⟩,h5⟩:=mq;cases e1
 cases e2
 cases e3
 obtain⟨dd,oo,f,pre,post,q1,q2,⟨v2,rfl,q3⟩,rfl,q5⟩:=h5.at_ hm;obtain⟨a0,es,ds,fs,rfl,r2,r3,rfl,r5,r6,hl,hn⟩:=q3.dict;have yu:a0∈F:=h3 a0 (by simp);have w_:Den K (cut H F) kv k:=wZ.imm_out S.lst k (V5 _ hk.1);have jk:∀e∈es,aH e.1 k=rp↔e.1=k:=λe he=>B6 e.1 k (r5 e he).1.1 hk.1
 have cnt:∀b,b∈fv->(pre++post).count b=0/\b≠a0/\fs.count b=0/\fv.count b=1:=λb hb=>by
  have z:=cO.mp h2 b;have z2:=dG.mpr hb;simp only[bu,bw,dI]at z ⊢;refine⟨by lia,λe=>?_,by lia,by lia⟩;subst e;simp only[gY,jt]at z;lia
 have xN:(pre++post).count a0=0/\fs.count a0=0:=by
  have z:=cO.mp h2 a0;simp only[bu,bw,gS]at z ⊢;exact⟨by lia,by lia⟩
 refine⟨a0,es,ds,fv,q2,r2,by rw[v8 q1];exact r3,hl,r5,hn,ov,?_,λb hb=>⟨h3 b (by simp[hb]),(cnt b hb).2.1⟩,λhf H' a o' d' f' gr ha o hc=>?_⟩
 ·refine cO.mpr λb=>?_
  by_cases c:b∈fv
  ·rw[(cnt b c).2.2.2];exact ay _
  ·rw[dY.mpr c];exact cj _
 ·obtain⟨c1,c2,c3,c4⟩:=cnt a ha;have oY:a∈F:=h3 a (by simp[ha]);have fX:Same (cut H F) (cut (upd H' a o'.1) F):=((K0 yu _).trans (B7 gr)).trans (K0 oY _);have kk:∀(l:List au),l.count a=0->l.count a0=0->(∀b∈l,b∈F)->∀b∈l,upd H' a o'.1 b=H b:=λl hc yr zZ b hb=>by
   have n1:b≠a:=λz=>by subst z;rw[dY]at hc;exact hc hb
   have n0:b≠a0:=λz=>by subst z;rw[dY]at yr;exact yr hb
   rw[f7 n1];obtain⟨ys,q⟩:=S.lst b (zZ b hb);rw[q];exact gr _ _ (by rw[f7 n0];exact q)
  have yk:upd H' a o'.1 a0=cz (c6 a0 (es++[(k,kv,v)])):=by rw[f7 (dN c2)];exact gr _ _ g9
  have o1:Own K (upd H' a o'.1) F (.d kt u) (.ref a0) (.dict (((es++[(k,kv,v)]).map (·.1)).zip (ds++[d']))) (a0::(fs++f')):=by
   simp only[Own];refine⟨a0,es++[(k,kv,v)],ds++[d'],_,rfl,yk,rfl,rfl,⟨?_,λe he=>?_⟩,?_⟩
   ·rw[aQ,bh];refine⟨hn,by simp,λx hx y hy e=>?_⟩;simp only[aA,cV,ak]at hy;subst hy;subst e;obtain⟨e,he,rfl⟩:=bj.mp hx;unfold s9 at hf;rw[cI]at hf;exact hf e he ((jk e he).mpr rfl)
   ·rcases az.mp he with z|z
    ·exact⟨(r5 e z).1,(r5 e z).2.up fX⟩
    ·rw[ak.mp z];exact⟨hk,w_.up fX⟩
   ·rw[aQ];refine (l5 fX r6 (kk _ c3 xN.2 λb hb=>h3 b (by simp[hb]))).append ?_;have:=l0 (R:=Own K (upd H' a o'.1) F u) o l7
    rwa[bM]at this
  rw[W3 (kv:=kv) (v:=v) hl]at o1;have q:=q5 (upd H' a o'.1) F (.own (.d kt u)) (.dict ((es.map (·.1)).zip ds++[(k,d')])) (cz (.ref a0)) _ (kk _ c1 xN.1 λb hb=>h3 b (ax _ (mem_mid hb))) fX ⟨_,rfl,o1⟩;rw[set_same (l:=Y) q2,set_same (l:=M) hm]at q;refine⟨⟨_,q,Q4 h2 λb=>?_,λb hb=>?_⟩,λb hb=>?_,S.prot.trans fX⟩
  ·have:=hc b;simp only[bu,bw,dI];lia
  ·have hp:0<(fv++(pre++(a0::fs++post))).count b:=by
    have h0:=dG.mpr hb;have:=hc b;simp only[bu,bw,dI]at h0 ⊢;lia
   exact h3 b (dG.mp hp)
  ·by_cases e:b=a
   ·subst e;exact⟨o',g9⟩
   ·by_cases e0:b=a0
    ·subst e0;exact⟨⟨c6 b (es++[(k,kv,v)]),trivial⟩,yk⟩
    ·obtain⟨ys,y⟩:=S.lst b hb;exact⟨ys,by rw[f7 e];exact gr _ _ (by rw[f7 e0];exact y)⟩
def StR.ded(S:StR K M U Y H P F)(hm:M[y]?=cz .dead)(v:Option V):StR K M U (Y.set y v) H P F:=by
 obtain⟨G,h1,h2,h3⟩:=S.all;obtain⟨dd,oo,f,pre,post,q1,q2,q3,rfl,q5⟩:=h1.at_ hm;have q:=q5 H F .dead dd v f (λ_ _=>rfl) (Same.refl _) q3;rw[set_same (l:=M) hm,set_same (l:=U) q1]at q;exact⟨⟨_,q,h2,h3⟩,S.lst,S.prot⟩
end
def b2E(h:H a=cz o):upd H a o=H:=funext λb=>by
 by_cases c:b=a
 ·rw[c,g9,h]
 ·rw[f7 c]
def a4E(hk:C2 k=rp)(h:w6 kvs k=xn):D0 (kvs++[(k,d)]) k=cz d:=by
 unfold D0;unfold w6 at h;rw[cI]at h;rw[List.find?_append,iC.mpr λp hp=>by simpa using h p hp];simp[(B6 k k hk hk).mpr rfl]
def a8h(hk:C2 k=rp)(h:w6 kvs k=xn):n4 (kvs++[(k,d)]) k d'=kvs++[(k,d')]:=by
 have hh:w6 (kvs++[(k,d)]) k=rp:=a0K (a4E hk h);unfold w6 at h;rw[cI]at h;unfold n4;rw[hh,aC rfl,aQ]
 congr 1
 ·have:∀p∈kvs,(if aH p.1 k then (p.1,d') else p)=p:=λp hp=>aI (h p hp)
  rw[cL this,g_]
 ·simp[(B6 k k hk hk).mpr rfl]
section
variable {K:ae}{H:Hp}{F:List au}
def StR.relist(S:StR K M U Y H P F)(hm:M[i]?=cz (.own (.l .i)))(hs:Y[i]?=cz (cz (.ref b)))(hr:U.getD i .none=.list ds)(hd:DenAll K (cut H F) zs es)(hi:e7 es=rp) :
  StR K M (U.set i (.list es)) Y (upd H b (.lst zs)) P F:=by
 obtain⟨G,h1,h2,h3⟩:=S.all;obtain⟨dd,oo,f,pre,post,q1,q2,⟨v2,rfl,q3⟩,rfl,q5⟩:=h1.at_ hm;rw[hs]at q2;cases q2
 rw[v8 q1]at hr;subst hr;simp only[Own]at q3;rcases q3 with⟨_,hx,_⟩|⟨a,xs,iY,fs,ea,hH,_,rfl,hL⟩
 ·simp only[imm]at hx;cases hx
 cases ea
 have tY:b∈F:=h3 b (by simp);have cnt:(pre++post).count b=0:=by
  have z:=cO.mp h2 b;simp only[bu,bw,gS]at z ⊢;lia
 have fX:Same (cut H F) (cut (upd H b (.lst zs)) F):=K0 tY _;have o1:Own K (upd H b (.lst zs)) F (.l .i) (.ref b) (.list es) [b]:=by
  simp only[Own];refine .inr ⟨b,zs,es,[],rfl,g9,rfl,rfl,ListAll.of_den (hd.up fX) λv d hx q=>?_⟩;simp only[Own];exact⟨trivial,E1 hi hx,q⟩
 have q:=q5 (upd H b (.lst zs)) F (.own (.l .i)) (.list es) (cz (.ref b)) [b] (λc hc=>f7 λz=>by subst z;rw[dY]at cnt;exact cnt hc) fX ⟨_,rfl,o1⟩;rw[set_same (l:=Y) hs,set_same (l:=M) hm]at q;refine⟨⟨_,q,Q4 h2 λc=>?_,λc hc=>h3 c ?_⟩,λc hc=>?_,S.prot.trans fX⟩
 ·simp only[bu,bw,dI,cA,List.count_nil];lia
 ·simp only[az,aF,bw,eh,or_false]at hc ⊢;rcases hc with z|z|z
  ·exact .inl z
  ·exact .inr (.inl z)
  ·exact .inr (.inr (.inr (by simpa using z)))
 ·by_cases e:c=b
  ·subst e;exact⟨⟨.lst zs,trivial⟩,g9⟩
  ·obtain⟨ys,y⟩:=S.lst c hc;exact⟨ys,by rw[f7 e];exact y⟩
theorem a1Y:∀{ds es:List D} {xs ys:List V},DenAll K H' xs ds->DenAll K H' ys es->DenAll K H' (xs++ys) (ds++es)
 |[],es,xs,ys,h,h'=>by rw[h.nil_inv];exact h'
 |d::ds,es,xs,ys,h,h'=>by
  obtain⟨v,r,rfl,h1,h2⟩:=h.cons_inv;exact denAll_cons h1 (a1Y h2 h')
theorem a3n:∀{ds:List D} {xs:List V},DenAll K H' xs ds->DenAll K H' xs.reverse ds.reverse
 |[],xs,h=>by rw[h.nil_inv];exact denAll_nil
 |d::ds,xs,h=>by
  obtain⟨v,r,rfl,h1,h2⟩:=h.cons_inv;rw[kJ,kJ];exact a1Y (a3n h2) (denAll_cons h1 denAll_nil)
def a8i:∀{ds:List D},e7 ds=rp->e7 ds.reverse=rp:=λ{ds} h=>by
 have key:∀l:List D,(∀d∈l,imm d=rp)->e7 l=rp:=by
  intro l
  induction l with
  |nil=>intro _;simp only[e7]
  |cons d l ih=>intro hl;simp only[e7,ar];exact⟨hl d av,ih λx hx=>hl x (aw _ hx)⟩
 exact key _ λd hd=>E1 h (lx.mp hd)
end
def c1k:V->List V->Hp->VK->Prop:=λx vs H Q=>∃l xs,x=.ref l/\vs=[]/\H l=cz (.lst xs)/\Q .non (upd H l (.lst xs.reverse))
noncomputable def b7Y(i:Nat):EvS:=λU=>match U.getD i .none with
 |.list ds=>cz (.nx (U.set i (.list ds.reverse)))
 |_=>p4
section
variable {X:Cx}{u w:Ty}{ML M M1:List Md}{e e2:Expr}{f:EvX}{f2:EvE}{c2:Cat}{pos apos cM:fQ}{x:bI}{px:fQ}
def b7Z:MtM X "list.reverse" c1k:=by
 intro pins s Y H x vs v us Q I rx rv h;obtain⟨l,xs,rfl,rfl,hH,q⟩:=h;cases rx
 have om:=rv.zero;subst om;obtain⟨z,cQ,n,r,hl,e⟩:=I.lstM hH;refine call_meets r_ ⟨_,e,rfl⟩ PySem.F.entry_list_reverse (PySem.F.args_list_reverse_1 _) (PySem.AutoSeq1.list_reverse_list_0 l cQ.toArray n (by rw[bx];lia)) ⟨e,?_⟩;refine⟨.non,_,I.lset (its':=cQ.reverse) (ys:=xs.reverse) hH e (by simp) ?_ (by rw[yL];exact z),rfl,q⟩;have qz:xs.reverse.length=cQ.reverse.length:=by simp[hl]
 refine U4 qz λi x u h1 h2=>?_
 have hi:i<xs.length:=by have:=(aN.mp h1).1;simpa using this
 rw[vP hi]at h1;rw[vP (by lia)]at h2;obtain⟨u',tM,ru⟩:=r.get h1;rw[hl,h2]at tM;cases tM
 exact ru
def b8a(i:Nat)(hm:M[i]?=cz (.own (.l .i)):=by rfl)(hN:X.N[i]?=cz x:=by rfl)(hv:Vis X.env.scope x:=by first|exact cg rfl|exact bP (cg rfl)|exact bP (bP rfl))(hd:(x==("__debug__":bI))=xn:=by decide)
  (jg:(x==("__classdict__":bI))=xn:=by decide) (fx:dC (.Name x px) "reverse" X.env (cG (.Name x px) X.env)=cG (.Name x px) X.env:=by rfl) (fw:(apos.endLine==cM.line)=rp:=by rfl)
  (oq:eX (.Call (.Attribute (.Name x px) "reverse" apos) [] [] cM) p4 pos.line X.env=pure xn:=by rfl) :
  PSX X w ML M (.Expr (.Call (.Attribute (.Name x px) "reverse" apos) [] [] cM) pos) (b7Y i) M:=by
 refine .mk ⟨_,X1 (b7a iJ r_ PySem.F.type_list_reverse b7Z (x9 hN hv hd jg) fx fw) oq,λD U Y H P F o S hg k=>?_⟩;obtain⟨v,f,vF,ov,hf⟩:=S.toE.get hm;unfold b7Y at hg;cases hU:U.getD i .none with
 |list ds=>
  rw[hU]at hg ov;cases hg
  simp only[Own]at ov;rcases ov with⟨_,hi,_⟩|⟨a,xs,iY,fs,rfl,h1,h2,rfl,h3⟩
  ·simp only[imm]at hi;cases hi
  ·cases h2
   have rq:DenAll X.K (cut H F) xs ds:=ListAll.den (R:=λv d f=>Own X.K H F .i v d f) (λv d f q=>(V8 q).2.2) h3;have Fd:e7 ds=rp:=by
    have:∀{ds:List VS.D} {xs:List V} {fs:List au},ListAll (Own X.K H F .i) xs ds fs->e7 ds=rp:=by
     intro ds
     induction ds with
     |nil=>intro _ _ _;simp only[e7]
     |cons d ds ih=>
      intro xs fs h;obtain⟨v,r,f,g,_,_,q1,q2⟩:=h.cons_inv;simp only[e7,ar];exact⟨(V8 q1).2.1,ih q2⟩
    exact this h3
   exact⟨_,vF,.inl ⟨rfl,xs,SqL.of h1⟩,a,xs,rfl,rfl,h1,k Y _ F (S.relist hm vF hU (a3n rq) (a8i Fd))⟩
 |_=>rw[hU]at hg;cases hg
end
def a6S(z:au)(j:Int):HO:=.ext λh=>∃t u v,IsRange h z 0 j 1 t u v
section
variable {X:Cx}{M ML:List Md}{a:Expr}{fa:EvE}{ca:Cat}{w:Ty}{pos gB p p2:fQ}
def a1Z:CallR X (.type "range") (λxs H Q=>∃j,xs=[.int j]/\∀z,H z=p4->Q (.ref z) (upd H z (a6S z j))):=by
 intro pins s Y H xs us Q I rv h;obtain⟨j,rfl,q⟩:=h;obtain⟨u,rfl,rx⟩:=vals1 rv;obtain⟨t,rfl⟩:=rx;refine call_range_1 ⟨.ref s.heap.objs.size,_,I.laid (a:=s.heap.objs.size) (o:=a6S s.heap.objs.size j) (t':=s.toks+1+1) (λ_ _ q=>af _ q) (ay _) ?_,rfl,q _ (I.hok.fresh (ay _))⟩;exact⟨⟨_,_,_,IsRange.new ..⟩,⟨_,aL _ rfl⟩,λx1 x2 ⟨t,u,v,ho⟩ hk=>⟨t,u,v,hk _ ho⟩⟩
def a8j(hc:X.calm=rp):CallR X (.type "list") (λxs H Q=>∃p j,xs=[.ref p]/\H p=cz (a6S p j)/\-(2^62)<=j/\j<=1000000/\∀l,H l=p4->Q (.ref l) (upd H l (.lst ((aU j.toNat).map λ(k:Nat)=>V.int (0+k))))):=by
 intro pins s Y H xs us Q I rv h;obtain⟨p,j,rfl,hH,h1,h2,q⟩:=h;obtain⟨u,rfl,rx⟩:=vals1 rv;cases (show u=be p from rx)
 obtain⟨t,u,v,hr⟩:=(show ObjOk X.prog X.w H s.heap p (a6S p j) from I.hok p _ hH).1;have hn:fF 0 j 1=j.toNat:=by rw[yZ];split<;>lia
 refine call_list_range (n:=j.toNat) (I.ok.hd hc) hr (small_one (by decide) (by decide) h1 (by lia)) hn (by lia) λh' tk acc c hk ho jc=>?_
 have hz:aV=16777216:=cJ;refine⟨.ref s.heap.objs.size,_,I.laid (t':=tk) hk (ay _) (show ObjOk X.prog X.w _ h' _ (.lst ((aU j.toNat).map λ(k:Nat)=>V.int (0+k))) from⟨by rw[ag,dB];lia,acc.toList,c,?_,by rw[jE];exact ho⟩),rfl,q _ (I.hok.fresh (ay _))⟩;refine U4 (by rw[ag,dB,aD];exact jc.1.symm) λi x u g1 g2=>?_
 rw[bE]at g2;obtain⟨t',rfl⟩:=jc.2 i u g2;rw[aZ]at g1;have hi:i<j.toNat:=by have:=(gW.mp g2).1;rw[jc.1]at this;exact this
 rw[ic hi]at g1;cases g1
 exact⟨t',by simp⟩
noncomputable def a5P(a:EvE):EvE:=λU=>(a U).bind λd=>(asI d).bind λn=>if -(2^62)<=n/\n<=1000000 then cz (.list (B8 0 n.toNat)) else p4
def b2F(hc:X.calm=rp)(hm:X.mg "list"=p4)(zT:X.mg "range"=p4)(ha:PX X M a fa ca)(hg:Gl X "list":=by rfl)(sH:Gl X "range":=by rfl)(he:ao [a] X.env=(xn,cG a X.env)::ao [] X.env:=by rfl)(gh:(cC gB (ao [] X.env)).any (·.1)=xn:=by rfl)
  (nK:ao [.Call (.Name "range" p2) [a] [] gB] X.env=(xn,cG (.Call (.Name "range" p2) [a] [] gB) X.env)::ao [] X.env:=by rfl) (pC:(cC pos (ao [] X.env)).any (·.1)=xn:=by rfl) :
  PX X M (.Call (.Name "list" p) [.Call (.Name "range" p2) [a] [] gB] [] pos) (a5P fa) (.new (.l .i)):=by
 obtain⟨ta,pa,qa⟩:=ha.out;refine .mk ⟨_,C1 (a8j hc) hg hm PyProof.Rows.Boot.«list» (k9 (C1 a1Z sH zT um (k9 pa o7 he) (by decide) (by decide) he gh) o7 nK) (by decide) (by decide) nK pC,λU Y H P F d Q S hf q=>?_⟩;obtain⟨x,h1,g1⟩:=bnd hf;obtain⟨n,h2,g2⟩:=bnd g1;cases a0E h2
 by_cases c:-(2^62)<=n/\n<=1000000
 ·rw[aC c]at g2;cases g2
  refine qa U Y H P F _ _ S h1 λv H1 e1 r1=>⟨n,by rw[r1.den.int_inv],λz hz=>⟨z,n,rfl,g9,c.1,c.2,λl hl=>?_⟩⟩
  have e2:=e1.trans (j6 hz (a6S z n));exact q _ _ (e2.trans (j6 hl _)) (J1 a1l (T9 _ _) e2 hl (S.lst' e2))
 ·rw[aI c]at g2;cases g2
end
def b9T:∀{us:List α},us.length=1->∃a,us=[a]
 |[a],_=>⟨a,rfl⟩
def b4Z:∀{us:List α},us.length=2->∃a b,us=[a,b]
 |[a,b],_=>⟨a,b,rfl⟩
def b9U:∀{us:List α},us.length=3->∃a b c,us=[a,b,c]
 |[a,b,c],_=>⟨a,b,c,rfl⟩
def c1l:∀{us:List α},us.length=4->∃a b c d,us=[a,b,c,d]
 |[a,b,c,d],_=>⟨a,b,c,d,rfl⟩
def c1m:∀{us:List α},us.length=5->∃a b c d e,us=[a,b,c,d,e]
 |[a,b,c,d,e],_=>⟨a,b,c,d,e,rfl⟩
def c1n:∀{us:List α},us.length=6->∃a b c d e f,us=[a,b,c,d,e,f]
 |[a,b,c,d,e,f],_=>⟨a,b,c,d,e,f,rfl⟩
noncomputable def a4F(i:Nat)(kt:Bool)(fk fe:EvE):EvS:=λU=>(fk U).bind λk=>(fe U).bind λd=>match U.getD i .none with
 |.dict kvs=>if m9 kt k then match D0 kvs k with
   |some (.list es)=>if es.length<1000000 then cz (.nx (U.set i (.dict (n4 kvs k (.list (es++[d])))))) else p4
   |_=>p4
  else p4
 |_=>p4
section
variable {X:Cx}{M ML:List Md}{i j:Nat}{u t w:Ty}{k e:Expr}{fk fe:EvE}{kt:Bool}{x:bI}{px og pos apos cM zf:fQ}{sts:List iz}{g:List D->D->Option D}{sl:List Nat}
def b5a(i:Nat)(hu:X.A.units+64<du)(hk:PX X M k fk ck)(he:PX X M e fe (.new .i))(ot:a4x k:=by exact λ_ _=>rfl)(hm:M[i]?=cz (.own (.d kt (.l .i))):=by rfl)(hN:X.N[i]?=cz x:=by rfl)(hv:Vis X.env.scope x:=by first|exact cg rfl|exact bP (cg rfl)|exact bP (bP rfl))(hd:(x==("__debug__":bI))=xn:=by decide)
  (jg:(x==("__classdict__":bI))=xn:=by decide)
  (fx:dC (.Subscript (.Name x px) k og) "append" X.env (cG (.Subscript (.Name x px) k og) X.env)=cG (.Subscript (.Name x px) k og) X.env:=by rfl)
  (lC:((cC cM (ao [e] X.env)).all (λx=>!x.1)&&(oI cM (kg [] X.env)).all (λx=>x.1.isSome)
   && decide ([e].length+([]:List iE).length+(if ([]:List iE).isEmpty then 0 else 1)<30))=rp:=by rfl)
  (fw:(apos.endLine==cM.line)=rp:=by rfl) (hs:ao [e] X.env=(xn,cG e X.env)::ao [] X.env:=by rfl) (hX:(cC cM (ao [] X.env)).any (·.1)=xn:=by rfl)
  (oq:eX (.Call (.Attribute (.Subscript (.Name x px) k og) "append" apos) [e] [] cM) p4 pos.line X.env=pure xn:=by rfl) :
  PSX X w ML M (.Expr (.Call (.Attribute (.Subscript (.Name x px) k og) "append" apos) [e] [] cM) pos) (a4F i kt fk fe) M:=by
 obtain⟨tk,pk,qk⟩:=hk.out;obtain⟨te,pe,qe⟩:=he.out;refine .mk ⟨_,X1 (b1w iJ kS kP X2 (b2h hu (x9 hN hv hd jg) pk ot) (k9 pe o7 hs) fx lC fw hs hX) oq,λD U Y H P F o S hg kk=>?_⟩;obtain⟨k0,sE,g1⟩:=bnd hg;obtain⟨dv,va,g2⟩:=bnd g1;obtain⟨a,es,ds,fs,ha,hH,hU,_⟩:=S.toE.dict hm;rw[hU]at g2;have mK:(if m9 kt k0=rp then (match D0 ((es.map (·.1)).zip ds) k0 with
   |some (.list fS)=>if fS.length<1000000 then cz (Out.nx (U.set i (.dict (n4 ((es.map (·.1)).zip ds) k0 (.list (fS++[dv])))))) else p4
   |_=>p4) else p4)=cz o:=g2
 by_cases c:m9 kt k0=rp
 ·rw[aC c]at mK;cases rX:D0 ((es.map (·.1)).zip ds) k0 with
  |none=>rw[rX]at mK;cases mK
  |some d1=>
   rw[rX]at mK;cases d1 with
   |list xs=>
    have g3:(if xs.length<1000000 then cz (Out.nx (U.set i (.dict (n4 ((es.map (·.1)).zip ds) k0 (.list (xs++[dv])))))) else p4)=cz o:=mK;by_cases hz:xs.length<1000000
    ·rw[aC hz]at g3;cases g3
     refine⟨.ref a,ha,qk U Y H P F k0 _ S.toE sE λkv H1 w1 r1=>?_⟩;have S1:=S.grow w1;obtain⟨a0,fS,iY,t1,t2,t3,t4,t5,t6,t7⟩:=S1.dval (k:=k0) hm (u9 c);rw[ha]at t1;cases t1
     rw[hU]at t3
     injection t3 with t3
     rw[t3]at rX;refine⟨a,fS,kt,k0,rfl,t2,keysAt t5 c r1.den,by rw[<-w8 t4];exact a0K rX,λe9 Fp gu=>?_⟩;obtain⟨d2,f2,x1,x2,x3,x4,x5⟩:=t7 e9 Fp gu;rw[rX]at x1;cases x1
     simp only[Own]at x2;rcases x2 with⟨_,hi,_⟩|⟨b,vs,mi,gs,eb,hb,Gk,rfl,jV⟩
     ·simp only[imm]at hi;cases hi
     cases Gk
     have jV:ListAll (Own X.K H1 F .i) vs xs gs:=by
      have e9:(Own X.K H1 F .i)=λx Be Dn=>Dn=[]/\imm Be=rp/\Den X.K (cut H1 F) x Be:=by
       funext x y z
       simp only[Own]
      rw[e9];exact jV
     have tY:b∈F:=x4 b av;have hsz:vs.length=xs.length:=jV.length;rw[eb];refine⟨.inl ⟨rfl,vs,SqL.of hb⟩,qe U Y H1 P F dv _ S1.toE va λv1 H2 e2 ⟨fp,o1,nd,fr⟩=>?_⟩;obtain⟨rfl,im,GD⟩:=V8 o1;refine⟨b,vs,v1,rfl,rfl,e2 _ _ hb,by rw[hsz];exact fZ hz (by rw[cJ];decide),?_⟩;have fX:Same (cut H1 F) (cut (upd H2 b (.lst (vs++[v1]))) F):=(B7 e2).trans (K0 tY _);have kp:∀b'∈gs,upd H2 b (.lst (vs++[v1])) b'=H1 b':=λb' nU=>by
      have gN:b'≠b:=λz=>by subst z;exact (bB.mp x3).1 nU
      rw[f7 gN];exact S1.toE.keep e2 b' (x4 b' (aw _ nU))
     have ow:Own X.K (upd H2 b (.lst (vs++[v1]))) F (.l .i) (.ref b) (.list (xs++[dv])) (b::(gs++[])):=by
      simp only[Own];refine .inr ⟨b,vs++[v1],xs++[dv],gs++[],rfl,g9,rfl,rfl,(l5 fX jV kp).append ?_⟩;have ov:Own X.K (upd H2 b (.lst (vs++[v1]))) F .i v1 dv []:=by
       simp only[Own];exact⟨trivial,im,GD.up (K0 tY _)⟩
      exact l0 (R:=Own X.K (upd H2 b (.lst (vs++[v1]))) F .i) ov l7
     have fin:=x5 H2 b ⟨.lst (vs++[v1]),trivial⟩ (.list (xs++[dv])) (b::(gs++[])) e2 av (by rw[eb];exact ow) λb'=>by rw[bM];exact ay _
     rw[<-t3]at fin;exact kk Y _ F fin
    ·rw[aI hz]at g3;cases g3
   |_=>cases mK
 ·rw[aI c]at mK;cases mK
end
end VS
namespace VS
open PySem PySem.Spec L2
open PyProof.Rows (KeyOrd SortKind SortSt keyKind' keyLt' seqObj listItems_at listUpdate_at seqEpoch_at arrOf failedOf get?_update_seq general' size_push' ksk_end ksk_tail)
open PySem.W (kas_sort kas_ask kas_item kat_run kat_snds)
section
variable {prog:bA}{w:bX}{A:bL}{E:aj->aq->Prop}{sh:aq}{vs ks:List aj}{κ:eW}{O:KeyOrd}{key:Nat->O.α}{R:cf->Prop}
structure SortableR (prog:bA) (w:bX) (A:bL) (R:cf->Prop) (ks:List aj) (κ:eW) (O:KeyOrd) (key:Nat->O.α):Prop where
 kind:2<=ks.length->∀(s:aq) (E:aj->aq->Prop) (Q:eW->aq->Prop),R s.heap->Q κ s->aG (aT prog w) A (keyKind' ks.toArray) Q E s
 lt:∀(s:aq) (i j:Nat) (C:Bool->aq->Prop),R s.heap->i<ks.length->j<ks.length->C (O.blt (key i) (key j)) s->aG (aT prog w) A (keyLt' κ (ks.getD i bb) (ks.getD j bb)) C (λ_ _=>False) s
 cong:∀h,R h->∀i j,i<ks.length->j<ks.length->ks.getD i bb=ks.getD j bb->key i=key j
end
end VS
namespace VS
open PySem PySem.Spec L2
open PySem.W (KatLex KatTups BoolBack)
open PyProof.Rows (KeyOrd SortKind keyKind' keyLt' tuples')
def sqD(l:Bool)(ns:List Int):D:=if l then .list (ns.map .int) else .tuple (ns.map .int)
theorem b8b:∀ns:List Int,bp (ns.map aJ)=rp
 |[]=>by simp only[cV,bp]
 |n::ns=>by simp only[aA,bp,dA,b8b ns,gg]
section
variable {prog:bA}{w:bX}{A:bL}
theorem a0o:∀{ns:List Int} {vs:List aj} {as:List au},jz h vs (ns.map aJ) as->mN vs ns
 |[],_,_,r=>by cases r;exact .nil
 |n::ns,_,_,r=>by cases r with|cons r1 r2=>cases r1;exact .cons _ _ (a0o r2)
end
end VS
namespace VS
open PySem PySem.Spec L2
def Itd(a:au)(es:List (D×V×V)):It:=
 ⟨λi H=>H a=cz (c6 a es)/\i<es.length,λi H x H'=>H'=H/\∃e,es[i]?=cz e/\x=e.2.1,λi H=>H a=cz (c6 a es)/\es.length<=i⟩
def b0D(a it:au)(es:List (D×V×V))(hL:D9 es=xn):Turn P w K tg (Itd a es) [it] it (λi h=>h.IsKeyIter it a i es.length es.length) where
 mem:=by simp
 obj:=λi h st b hb=>by
  have e:b=it:=by simpa using hb
  subst e;obtain⟨o,e,c,d⟩:=st;exact⟨o,e,λv z=>by rw[d]at z;cases z⟩
 keep:=λi h h' st k=>st.at λo e=>k it (by simp) o e
 item:=by
  intro X hP hw hK hc i pins s Y H E I hf st hg;subst hP hw hK;obtain⟨hH,hi⟩:=hg;obtain⟨h0,hl,hn,o,ents,g1,g2,g3,g4⟩:=Y0 I hH hL;have hsz:ents.size=es.length:=by rw[cS g4];exact aD.symm
  have lA:i<ents.size:=by lia
  have hx:es[i]?=cz es[i]:=ai hi;obtain⟨y,hy,r⟩:=C0 g4 hx;have Eg:ents[i]=y:=by
   rw[bE,bt lA]at hy;exact aK hy
  obtain⟨f0,f1,f2,f3,f4,f5⟩:=hf it (by simp);have kX:s.heap.IsKeyIter it a i ents.size es.length:=by rw[hsz];exact st
  refine a6G kX ⟨o,g1,g2,g3⟩ lA λh' cF sb=>?_
  have I1:Inv X pins Y H {s with heap:=h'}:=I.turned (t':=s.toks) (λb o hb e=>(sb.2 b hb).trans e) f0 f1 f3 f4 f5;rw[hsz]at cF;obtain⟨o,e,c,d⟩:=id cF;exact⟨ents[i].key,rfl,a6i (s:={s with heap:=h'}) e c d (by decide) ⟨es[i].2.1,H,I1,by rw[Eg];exact r.2.1,⟨rfl,es[i],hx,rfl⟩,cF,λb hb=>(hf b hb).1⟩⟩
 done:=by
  intro X hP hw hK hc i pins s Y H E I hf st hg;subst hP hw hK;obtain⟨hH,hi⟩:=hg;obtain⟨h0,hl,hn,o,ents,g1,g2,g3,g4⟩:=Y0 I hH hL;have hsz:ents.size=es.length:=by rw[cS g4];exact aD.symm
  obtain⟨f0,f1,f2,f3,f4,f5⟩:=hf it (by simp);have kX:s.heap.IsKeyIter it a i ents.size es.length:=by rw[hsz];exact st
  exact a6H (I.ok.hd hc) kX ⟨o,g1,g2,g3⟩ (by lia) λh' eb=>⟨rfl,I.turned (t':=s.toks) (λb o hb e=>eb b o hb e) f0 f1 f3 f4 f5⟩
 self:=λ_ _ _ _ _ st h=>wpAny_pyIter_keyiter st h
section
variable {X:Cx}{M:List Md}{tg a:Expr}{fa:EvE}{ca:Cat}
def b8c(ta:TE):TI:=λY H R=>ta Y H λx H1=>∃p es,x=.ref p/\H1 p=cz (c6 p es)/\D9 es=xn/\R (Itd p es) H1
def b5b(hl:PE X a ta):PI X tg a (b8c ta):=by
 intro pins s Y H R I h;refine L2.thn (hl pins s Y H _ I h) λv s1 ⟨x,H1,I1,r1,q1⟩=>?_
 obtain⟨p,es,e,hH,hL,q⟩:=q1;subst e;cases r1
 obtain⟨h0,hl,hn,o,ents,g1,g2,g3,g4⟩:=Y0 I1 hH hL;have hsz:ents.size=es.length:=by rw[cS g4];exact aD.symm
 refine a6F h0 ⟨o,g1,g2,g3⟩ ?_;refine⟨s1.heap.objs.size,[s1.heap.objs.size],_,_,H1,rfl,I1.kept (t':=s1.toks) λb o e=>af _ e,b0D p _ es hL,⟨_,aL _ rfl,rfl,by rw[hsz];rfl⟩,λb hb=>?_,q⟩;have e:b=s1.heap.objs.size:=by simpa using hb
 subst e;exact I1.fpOk (ay _) (I1.hok.fresh (ay _))
def a8k:Walks (Itd p es) (λH=>H p=cz (c6 p es)) (es.map (·.2.1)) where
 go:=λi H h hi=>⟨h,by simpa using hi⟩
 stop:=λi H h hi=>⟨h,by simpa using hi⟩
 yld:=λi H x H' h hi y=>by
  obtain⟨e,r,hr,rfl⟩:=y;exact⟨e,by rw[aZ,hr];rfl⟩
noncomputable def iDk(a:EvE):EvA:=λU=>(a U).bind λd=>(b2B d).bind λks=>if D8 ks then p4 else cz ks
def a6T(h:PX X M a fa ca)(hc:frozen ca:=by trivial):PIX X M tg a (iDk fa):=by
 obtain⟨t,p,q⟩:=h.out;refine⟨_,b5b p,λU Y H P F ds R S hf k=>?_⟩;obtain⟨d,h1,h2⟩:=bnd hf;cases d with
 |dict kvs=>
  have jL:(if D8 (kvs.map (·.1)) then p4 else cz (kvs.map (·.1)))=cz ds:=h2;have hL:D8 (kvs.map (·.1))=xn:=by
   cases c:D8 (kvs.map (·.1)) with
   |false=>rfl
   |true=>rw[c]at jL;cases jL
  rw[hL]at jL;cases jL
  refine q U Y H P F _ _ S h1 λv H1 e1 r1=>?_
  obtain⟨aa,es,rfl,k1,k2⟩:=(D5 hc r1).dict_inv;exact⟨aa,es,rfl,i4 _ _ k1,by rw[D9,k2.keys];exact hL,k _ _ _ H1 e1 a8k (λH2 e2=>e2 _ _ k1) (O9 k2)⟩
 |_=>cases h2
end
def a6U(F:List au)(H H2:Hp):Hp:=λa=>if a∈F then H a else H2 a
def a0O(h:a∈F):a6U F H H2 a=H a:=aC h
def p7(h:a∉F):a6U F H H2 a=H2 a:=aI h
def b8d(sp:Sp):Sp:=λvs H Q E=>∃F:List au,(∀a∈F,∃ys:MuO,H a=cz ys.1)/\sp vs (cut H F) (λv H2=>(∀a∈F,H2 a=p4)->Q v (a6U F H H2)) E
section
variable {P:bA}{w:bX}{K:ae}{mg:bI->Option aj}{base:cf}{k:Nat}{f:au}{fd:dR}{ps:List bI}{sp:Sp}{H:Hp}{h:cf}{F:List au}
def a1A(hF:∀a∈F,∃ys:MuO,H a=cz ys.1)(e:H b=cz o)(n:¬ Mu o):b∉F:=λz=>by
 obtain⟨ys,hy⟩:=hF b z;rw[e]at hy;cases hy
 exact n ys.2
def b8e(h:Pin a o):¬ Mu o:=by cases o<;>first|exact λz=>z|exact λ_=>h
def b5c(hk:HOk P w H h)(hF:∀a∈F,∃ys:MuO,H a=cz ys.1):HOk P w (cut H F) h:=λa o e=>by
 obtain⟨_,e'⟩:=p5 e;exact (hk a o e').stay (λb u _ q=>q) (λb q=>j5 (a1A hF q (λz=>z)) q) λb xs q=>j5 (a1A hF q (b8e xs.2)) q
def z9(n:H a=p4):cut H F a=p4:=by
 by_cases q:a∈F
 ·exact V7 q
 ·rw[X3 q];exact n
def a8l(F0:FnOk P w K mg base CX0 k f fd ps sp):FnOk P w K mg base CX0 k f fd ps (b8d sp) where
 len:=λvs H Q E ⟨F,_,hs⟩=>F0.len _ _ _ _ hs
 run:=λA outer s H args us vs Q E hr he hb hv ⟨F,hF,hs⟩=>by
  have lW:Env0 P w K mg base A outer s (cut H F):=⟨he.frames,he.mod,λb o e=>⟨(he.bs b o e).1,z9 (he.bs b o e).2⟩,he.bsz,he.funs,λb hb=>z9 (he.frf b hb),b5c he.hok hF,he.bare,λx hx p e=>let⟨qs,t,e1,e2⟩:=he.tabs x hx p e;⟨qs,t,j5 (a1A hF e1 (λz=>z)) e1,e2⟩⟩;refine jx (F0.run A outer s (cut H F) args us vs _ E hr lW hb hv hs) λr s' hq=>?_
  cases r with
  |error e=>exact hq
  |ok fl=>
   cases fl with
   |ret u=>
    obtain⟨v,H2,os,bare,un,qw,rv,q⟩:=(show CE outer P w (cut H F) s _ u s' from hq);have there:∀a∈F,∃o,s.heap.get? a=cz o:=λa ha=>by
     obtain⟨⟨ys,hm⟩,hy⟩:=hF a ha;have:=he.hok a _ hy;cases ys with
     |lst xs=>obtain⟨_,cQ,n,r,e⟩:=this;exact⟨_,e⟩
     |dK kvs=>obtain⟨_,_,vs,_,ob,es,ep,e,_⟩:=this;exact⟨_,e⟩
     |ext φ=>obtain⟨_,e,_⟩:=this;exact e
     |_=>exact cP hm
    have CD:∀a∈F,H2 a=p4:=λa ha=>by
     obtain⟨o,ho⟩:=there a ha;exact un.free a o ho (V7 ha) (by simp)
    have EM:∀{b:au},H b=p4->b∉F:=λ{b} n z=>by
     obtain⟨ys,hy⟩:=hF b z;rw[n]at hy;cases hy
    refine (show CE outer P w H s Q u s' from⟨v,a6U F H H2,os,bare,?_,?_,rv,q CD⟩)
    ·refine⟨λb o q n hb hx=>un.keep b o q (z9 n) hb hx,λb o q n hb hx=>un.slot b o q (z9 n) hb hx,λb o q n hx=>?_,un.there,λb xs q=>?_,λb o u q=>?_,λb ps q=>?_⟩
     ·rw[p7 (EM n)];exact un.free b o q (z9 n) hx
     ·have n:=a1A hF q (λz=>z);rw[p7 n];exact un.tups b xs (j5 n q)
     ·have n:=a1A hF q (λz=>z);rw[p7 n];exact un.frzs b o u (j5 n q)
     ·have n:=a1A hF q (λz=>z);rw[p7 n];exact un.tbls b ps (j5 n q)
    ·intro a o e;by_cases ha:a∈F
     ·rw[a0O ha]at e;have hk:∀u,s.heap.get? a=cz u->s'.heap.get? a=cz u:=λu q=>un.keep a u q (V7 ha) (λz=>by rw[he.frf a z]at e;cases e) (by simp)
      obtain⟨⟨ys,hm⟩,hy⟩:=hF a ha;have ho:=he.hok a _ hy;have eo:o=ys:=aK (e.symm.trans hy);rw[eo];cases ys with
      |lst xs=>obtain⟨z,cQ,n,r,e⟩:=ho;exact⟨z,cQ,n,r,hk _ e⟩
      |dK kvs=>obtain⟨z,y,vs,r,ob,es,ep,e,c⟩:=ho;exact⟨z,y,vs,r,ob,es,ep,hk _ e,c⟩
      |ext φ=>obtain⟨h1,⟨ob,h2⟩,h3⟩:=ho;exact⟨h3 _ _ h1 hk,⟨ob,hk _ h2⟩,h3⟩
      |_=>exact cP hm
     ·rw[p7 ha]at e;have mG:∀{b:au} {o:HO},H2 b=cz o->a6U F H H2 b=cz o:=λ{b} {o} q=>by
       rw[p7 (λz=>by rw[CD b z]at q;cases q)];exact q
      exact (qw a o e).stay (λb u _ q=>q) (λb q=>mG q) λb xs q=>mG q
   |next=>exact cP hq
   |brk=>exact cP hq
   |cont=>exact cP hq
end
section
variable {X:Cx}{M:List Md}{a e0:Expr}{es:List Expr}{fa:EvE}{f:EvA}{ca:Cat}{u:Ty}{x:bI}{p pos:fQ}
def b0E(W:Has X.prog X.w X.K X.mg X.base x k ps sp):Has X.prog X.w X.K X.mg X.base x k ps (b8d sp):=by
 obtain⟨f,fd,F,b⟩:=W.ex;exact⟨f,fd,a8l F,b⟩
noncomputable def PAF(X:Cx)(M:List Md)(es:List Expr)(f:EvA):Prop:=
 ∃t,PA X es t/\∀(U:List D) (Y:L2.St) (H P:Hp) (F:List au) (ds:List D) (Q:List V->Hp->Prop),StE X.K M U Y H P F->f U=cz ds->(∀vs H',Same H H'->DenAll X.K (cut H' F) vs ds->Q vs H')->t Y H Q
def P0:PAF X M [] i5:=⟨_,o7,λU Y H P F ds Q S hf q=>by cases hf;exact q [] H (Same.refl _) denAll_nil⟩
def o6(ha:PX X M a fa ca)(hr:PAF X M es fr)(hc:frozen ca:=by trivial)(hs:ao (a::es) X.env=(xn,cG a X.env)::ao es X.env:=by rfl):PAF X M (a::es) (b8 fa fr):=by
 obtain⟨ta,pa,qa⟩:=ha.out;obtain⟨tr,pr,qr⟩:=hr;refine⟨_,k9 pa pr hs,λU Y H P F ds Q S hf q=>?_⟩;obtain⟨x,h1,hf⟩:=bnd hf;obtain⟨xs,h2,hf⟩:=bnd hf;cases hf
 exact qa U Y H P F _ _ S h1 λv H1 e1 r1=>qr U Y H1 P F _ _ (S.grow e1) h2 λvs H2 e2 r2=>q (v::vs) H2 (e1.trans e2) (denAll_cons ((D5 hc r1).up (B7 e2)) r2)
def K1(W:Has X.prog X.w X.K X.mg X.base x k ps (spD X.K n m u))(hr:Room k X.A)(h:PAF X M (e0::es) f)(hl:(e0::es).length=n:=by rfl)(hfl:∀U ds,f U=cz ds->ds.length=(e0::es).length)
  (hg:Gl X x:=by rfl) (lX:(x==("__debug__":bI))=xn:=by decide) (he:ao (e0::es) X.env=(xn,cG e0 X.env)::ao es X.env:=by rfl) (gh:(cC pos (ao es X.env)).any (·.1)=xn:=by rfl) :
  PX X M (.Call (.Name x p) (e0::es) [] pos) (eCl m f) (.new u):=by
 obtain⟨t,pa,qa⟩:=h;refine .mk ⟨_,a5o (b0E W) hr pa hg lX he gh,λU Y H P F d Q S hf q=>?_⟩;obtain⟨ds,h1,hf⟩:=bnd hf;refine qa U Y H P F ds _ S h1 λvs H1 e1 r1=>?_
 show b8d (spD X.K n m u) (vs++[]) H1 Q E0;rw[bM];refine⟨F,S.lst' e1,ds,d,by rw[r1.length,hfl U ds h1,hl],r1,hf,λv H2 fp e o nd fr hz=>q v (a6U F H1 H2) ?_ ?_⟩
 ·intro b o' hb;have xt:=e1 b o' hb;by_cases c:b∈F
  ·rw[a0O c];exact xt
  ·rw[p7 c];exact e b o' (j5 c xt)
 ·have sJ:∀a∈fp,a∉F:=λa ha z=>by
   obtain⟨ys,hy⟩:=o.lst u a ha;rw[hz a z]at hy;cases hy
  refine⟨fp,Own.frame (λb o' hb=>?_) u o (λa ha=>p7 (sJ a ha)),nd,λa ha=>?_⟩
  ·obtain⟨n1,n2⟩:=p5 hb;have n3:b∉F:=λz=>by rw[hz b z]at n2;cases n2
   exact j5 (λz=>(az.mp z).elim n1 n3) (by rw[p7 n3];exact n2)
  ·have:=fr a ha;rw[X3 (sJ a ha)]at this;exact e1.free this
end
def b8f:D->Option (List Int)
 |.list ds=>intsOf ds
 |_=>p4
def a4G(h:b8f d=cz ns):d=sqD rp ns:=by
 cases d with
 |list ds=>
  have h':intsOf ds=cz ns:=h;rw[E8 h'];rfl
 |_=>cases h
def Junk(H:Hp)(C:List au):Prop:=∀a∈C,∀u,H a=cz u->∃o,u=.frz o (.own a)
section
variable {K:ae}{H H':Hp}{C F:List au}
theorem Junk.cut(h:Junk H C):Junk (cut H F) C:=λa ha u e=>h a ha u (p5 e).2
def Junk.out(h:Junk H C)(e:H a=cz u)(n:∀o,u≠.frz o (.own a)):a∉C:=λz=>by
 obtain⟨o,q⟩:=h a z u e;exact n o q
def b2G(h:Junk H C)(q:SqX K H a xs):SqX K (VS.cut H C) a xs:=by
 rcases q with (q|⟨o,q⟩)|q
 ·exact .inl (.inl (j5 (h.out q λo z=>(nomatch z)) q))
 ·exact .inl (.inr ⟨o,j5 (h.out q λo z=>by cases z) q⟩)
 ·exact .inr q
def b2H(h:Junk H C)(q:SqT K H a xs):SqT K (VS.cut H C) a xs:=by
 rcases q with (q|⟨o,q⟩)|q
 ·exact .inl (.inl (j5 (h.out q λo z=>(nomatch z)) q))
 ·exact .inl (.inr ⟨o,j5 (h.out q λo z=>by cases z) q⟩)
 ·exact .inr q
def a3o(h:Junk H C)(q:H a=cz (c6 a es)):VS.cut H C a=cz (c6 a es):=
 j5 (h.out q λo z=>by unfold c6 at z;cases z) q
mutual
theorem Den.junk(h:Junk H C):∀(d:br) {v:V},Den K H v d->Den K (VS.cut H C) v d
 |.none,_,q=>by simpa only [Den]using q
 |.bool _,_,q=>by simpa only [Den]using q
 |.int _,_,q=>by simpa only [Den]using q
 |.str _,_,q=>by simpa only [Den]using q
 |.list ds,_,q=>by
  obtain⟨a,xs,rfl,h1,h2⟩:=q.list_inv;exact den_list (b2G h h1) (DenAll.junk h ds h2)
 |.tuple ds,_,q=>by
  obtain⟨a,xs,rfl,h1,h2⟩:=q.tup_inv;exact den_tup (b2H h h1) (DenAll.junk h ds h2)
 |.dict kvs,_,q=>by
  obtain⟨a,es,rfl,h1,h2⟩:=q.dict_inv;simp only[Den];exact⟨a,es,rfl,a3o h h1,DenKV.junk h kvs h2⟩
theorem DenAll.junk(h:Junk H C):∀(ds:List br) {xs:List V},DenAll K H xs ds->DenAll K (VS.cut H C) xs ds
 |[],_,q=>by simpa only [DenAll]using q
 |d::ds,_,q=>by
  obtain⟨v,r,rfl,h1,h2⟩:=q.cons_inv;exact denAll_cons (Den.junk h d h1) (DenAll.junk h ds h2)
theorem DenKV.junk(h:Junk H C):∀(kvs:List (br×br)) {es:List (br×V×V)},DenKV K H es kvs->DenKV K (VS.cut H C) es kvs
 |[],_,q=>by simpa only [DenKV]using q
 | (k,d)::r,_,q=>by
  simp only[DenKV]at q ⊢;obtain⟨x,es,h1,h2,h3,h4,h5⟩:=q;exact⟨x,es,h1,h2,Den.junk h k h3,Den.junk h d h4,DenKV.junk h r h5⟩
end
def b2I(a:au):VS.cut (VS.cut H C) F a=VS.cut (VS.cut H F) C a:=by
 unfold VS.cut;by_cases h1:a∈F<;>by_cases h2:a∈C<;>simp[h1,h2]
def Y3(h:Junk H C)(q:Den K (VS.cut H F) v d):Den K (VS.cut (VS.cut H C) F) v d:=
 (Den.junk h.cut d q).up λa o e=>by rw[b2I];exact e
mutual
theorem Own.junk(h:Junk H C):∀(u:Ty) {v:V} {d:br} {fp:List au},Own K H F u v d fp->Own K (VS.cut H C) F u v d fp
 |.i,_,_,_,q=>by simp only[Own]at q ⊢;exact⟨q.1,q.2.1,Y3 h q.2.2⟩
 |.f,_,_,_,q=>by simp only[Own]at q ⊢;exact⟨q.1,Y3 h q.2⟩
 |.l u,_,_,_,q=>by
  simp only[Own]at q ⊢;rcases q with⟨h1,h2,q⟩|⟨a,xs,ds,fs,rfl,h1,rfl,rfl,h2⟩
  ·exact .inl ⟨h1,h2,Y3 h q⟩
  ·exact .inr ⟨a,xs,ds,fs,rfl,j5 (h.out h1 λo z=>(nomatch z)) h1,rfl,rfl,h2.imp λv d f _ _ z=>Own.junk h u z⟩
 |.tp us,_,_,_,q=>by
  simp only[Own]at q ⊢;obtain⟨a,xs,ds,rfl,h1,h0,rfl,h2⟩:=q;exact⟨a,xs,ds,rfl,j5 (h.out h1 λo z=>(nomatch z)) h1,h0,rfl,OwnTs.junk h us h2⟩
 |.d kt u,_,_,_,q=>by
  simp only[Own]at q ⊢;obtain⟨a,es,ds,fs,rfl,h1,rfl,rfl,h3,h2⟩:=q;exact⟨a,es,ds,fs,rfl,a3o h h1,rfl,rfl,⟨h3.1,λx hx=>⟨(h3.2 x hx).1,Y3 h (h3.2 x hx).2⟩⟩,h2.imp λv d f _ _ z=>Own.junk h u z⟩
theorem OwnTs.junk(h:Junk H C):∀(us:List Ty) {xs:List V} {ds:List br} {fp:List au},OwnTs K H F us xs ds fp->OwnTs K (VS.cut H C) F us xs ds fp
 |[],_,_,_,q=>by simpa only [OwnTs]using q
 |u::us,_,_,_,q=>by
  simp only[OwnTs]at q ⊢;obtain⟨v,r,d,e,f,g,rfl,rfl,rfl,h1,h2⟩:=q;exact⟨v,r,d,e,f,g,rfl,rfl,rfl,Own.junk h u h1,OwnTs.junk h us h2⟩
end
def a6V(k:HOk P w H h)(j:Junk H C):HOk P w (VS.cut H C) h:=λa o e=>by
 obtain⟨na,e'⟩:=p5 e;refine (k a o e').stay (λb u _ q=>q) (λb q=>j5 (j.out q λo z=>(nomatch z)) q) λb u q=>j5 (λhb=>?_) q
 obtain⟨u,hu⟩:=u;obtain⟨ob,z⟩:=j b hb u q;subst z;have tM:b=a:=hu;exact na (tM▸hb)
def b0F(t:TabsIn K H)(j:Junk H C):TabsIn K (VS.cut H C):=λx hx p e=>by
 obtain⟨qs,t',e1,e2⟩:=t x hx p e;exact⟨qs,t',j5 (j.out e1 λo z=>(nomatch z)) e1,e2⟩
end
end VS
namespace VS
open PySem PySem.Spec L2 PyProof.Rows
def FnV(P:bA)(w:bX)(K:ae)(mg:bI->Option aj)(base:cf)(k n:Nat)(u:Ty)(m:List D->Option D)(H:Hp)(v:V):Prop:=
 ∃fa fo,v=.ref fa/\H fa=cz (.frz fo (.own fa))/\(∃fd,fo.data=.func fd)/\
  ∀(A:bL) (outer:List pZ) (s:aq) (us:List aj) (vs:List V) (Q:VK) (E:XK),Room k A->Env0 P w K mg base A outer s H->Vals vs us->spD K n m u vs H Q E->
   iZ (aT P w) A (.call (.ref fa) ⟨us,[]⟩) (CR CX0 outer P w H s Q E) s
section
variable {X:Cx}{M:List Md}{a e0:Expr}{es:List Expr}{fa:EvE}{f:EvA}{ca:Cat}{u:Ty}{x:bI}{p pos:fQ}
def b8g(X:Cx)(i k n:Nat)(u:Ty)(m:List D->Option D)(t:TA):TE:=λY H Q=>∃v,Y[i]?=cz (cz v)/\t Y H λvs H1=>FnV X.prog X.w X.K X.mg X.base k n u m H1 v/\spD X.K n m u vs H1 Q E0
def b2J(hr:Room k X.A)(ha:PA X (e0::es) t)(hN:X.N[i]?=cz x)(hv:Vis X.env.scope x)(hd:(x==("__debug__":bI))=xn)(jg:(x==("__classdict__":bI))=xn)
  (he:ao (e0::es) X.env=(xn,cG e0 X.env)::ao es X.env) (gh:(cC pos (ao es X.env)).any (·.1)=xn):PE X (.Call (.Name x p) (e0::es) [] pos) (b8g X i k n u m t):=by
 intro pins s Y H Q I ⟨v,e,h⟩;refine fV (L2.thn (x9 hN hv hd jg pins s Y H (λv' H'=>v'=v/\H'=H) I ⟨v,e,rfl,rfl⟩) λu1 s1 ⟨v',H',I1,r1,z1,z2⟩=>?_);subst z1;subst z2;rw[he];refine PySem.W.callWith_of (P:=λh=>∃fa fo fd,u1=.ref fa/\h.get? fa=cz fo/\fo.data=.func fd) (by show ((xn||(cC pos (ao es X.env)).any (·.1))||false)=xn;rw[gh];rfl) (λh ⟨fa,fo,fd,q1,q2,q3⟩=>?_) (oX ?_)
 ·subst q1;obtain⟨cls,dict,data,slots⟩:=fo;have DG:data=.func fd:=q3;subst DG;exact⟨.frame,.inl rfl,(PySem.W.Looks.ld (part:=p4) q2).andThen .now⟩
 ·have tZ:=ha pos pins s1 Y H' _ I1 h;rw[he]at tZ;refine L2.thn tZ λus s2 ⟨vs,H2,I2,r2,⟨fa,fo,q1,q2,⟨fd,q3⟩,q4⟩,q5⟩=>⟨?_,?_⟩
  ·have za:u1=.ref fa:=by rw[q1]at r1;exact r1
   exact⟨fa,fo,fd,za,(I2.hok fa _ q2).1,q3⟩
  ·have za:u1=.ref fa:=by rw[q1]at r1;exact r1
   subst za;refine wpAny_call (jx (q4 X.A X.stack s2 us vs Q E0 hr I2.env0 r2 q5) λr s' hq=>?_);cases r with
   |error e=>exact cP hq
   |ok fl=>
    cases fl with
    |ret u=>exact I2.after hq
    |next=>exact cP hq
    |brk=>exact cP hq
    |cont=>exact cP hq
def StE.getF{K:ae}{U:List D}{Y:L2.St}{H P:Hp}{F:List au}{Φ:Hp->V->Prop}(h:StE K M U Y H P F){i:Nat}(hm:M[i]?=cz (.fn Φ)):∃v,Y[i]?=cz (cz v)/\∀H',Same (cut H F) H'->Φ H' v:=by
 obtain⟨G,h1,h3⟩:=h.all;obtain⟨d,o,f,pre,post,e1,e2,⟨_,v,rfl,q⟩,e4,_⟩:=h1.at_ hm;exact⟨v,e2,q⟩
def b2K(i:Nat){k n:Nat}{m:List D->Option D}(hr:Room k X.A)(h:PAX X M (e0::es) f)(hm:M[i]?=cz (.fn (FnV X.prog X.w X.K X.mg X.base k n u m)):=by rfl)(hu:u.shut=rp:=by rfl)(hl:(e0::es).length=n:=by rfl)(hfl:∀U ds,f U=cz ds->ds.length=(e0::es).length)
  (hN:X.N[i]?=cz x:=by rfl) (hv:Vis X.env.scope x:=by first|exact cg rfl|exact bP (cg rfl)|exact bP (bP rfl)) (lX:(x==("__debug__":bI))=xn:=by decide) (jg:(x==("__classdict__":bI))=xn:=by decide)
  (he:ao (e0::es) X.env=(xn,cG e0 X.env)::ao es X.env:=by rfl) (gh:(cC pos (ao es X.env)).any (·.1)=xn:=by rfl) :
  PX X M (.Call (.Name x p) (e0::es) [] pos) (eCl m f) (.new u):=by
 obtain⟨t,pa,qa⟩:=h;refine .mk ⟨_,b2J (i:=i) (n:=n) (m:=m) (u:=u) hr pa hN hv lX jg he gh,λU Y H P F d Q S hf q=>?_⟩;obtain⟨ds,h1,hf⟩:=bnd hf;obtain⟨v,zD,zC⟩:=S.getF hm;refine⟨v,zD,qa U Y H P F ds _ S h1 λvs H1 e1 r1=>⟨zC H1 (i4.trans e1),?_⟩⟩;refine⟨ds,d,by rw[r1.length,hfl U ds h1,hl],r1,hf,λv H' fp e o nd fr=>q v H' (e1.trans e) ⟨fp,o.shut_out (λa ha=>?_) u hu,nd,λa ha=>e1.free (fr a ha)⟩⟩;rcases az.mp ha with z|z
 ·exact o.lst u a z
 ·exact S.lst' (e1.trans e) a z
end
def spL(K:ae)(n:Nat)(Φ:(List D->Option D)->Hp->V->Prop)(m:(List D->Option D)->List D->Option D)(u:Ty):Sp:=λvs H Q _=>∃rs v gm ds d,vs=rs++[v]/\rs.length=n/\DenAll K H rs ds/\(∀H',Same H H'->Φ gm H' v)/\m gm ds=cz d/\
 ∀v H' fp,Same H H'->Own K H' fp u v d fp->fp.Nodup->(∀a∈fp,H a=p4)->Q v H'
def fnL(us:List Ty)(n:Nat)(g:(List D->Option D)->EvS):(List D->Option D)->List D->Option D:=λgm ds=>if argsOk us ds then (g gm (ds++(.none::aS n .none))).bind λo=>match o with
 |.rt d=>cz d
 |_=>p4
 else p4
theorem StAll.app{K:ae}{H:Hp}{F:List au}:∀{M1 M2:List Md} {U1 U2:List D} {Y1 Y2:L2.St} {f1 f2:List au},StAll K H F M1 U1 Y1 f1->StAll K H F M2 U2 Y2 f2->StAll K H F (M1++M2) (U1++U2) (Y1++Y2) (f1++f2)
 |[],_,_,_,_,_,_,_,h,q=>by simp only[StAll]at h;obtain⟨rfl,rfl,rfl⟩:=h;exact q
 |m::M,_,_,_,_,_,_,_,h,q=>by
  simp only[StAll]at h;obtain⟨d,U,o,Y,f,g,rfl,rfl,rfl,h1,h2⟩:=h;rw[bg];exact j9 h1 (StAll.app h2 q)
theorem a2a{K:ae}{H:Hp}{F:List au}:∀n:Nat,StAll K H F (aS n .dead) (aS n .none) (aS n p4) []
 |0=>L7
 |n+1=>j9 (f:=[]) (g:=[]) rfl (a2a n)
def b2L{P:bA}{w:bX}{K:ae}{mg:bI->Option aj}{base:cf}{x:bI}{st:iz}{f:au}{fd:dR}{N ps:List bI}{k n:Nat}{us:List Ty}{u:Ty}{Φ:(List D->Option D)->Hp->V->Prop}{g:(List D->Option D)->EvS}{M':(List D->Option D)->List Md}(F:Fun K x x st f fd)(S:FnScope N ps (i6 st))(om:us.length+1=ps.length)(hn:N.length=ps.length+n)
  (hb:∀(gm:List D->Option D) (gK:aj) (A:bL) (outer:List pZ) (s:aq) (H:Hp) (E:XK),Room k (A.deeper (jM x (i6 st) s.heap.objs.size f gK))->PSsX (a0w CX0 P w K mg base N x (i6 st) f gK A outer s H E).nox u [] (us.map .own++(.fn (Φ gm)::aS n .dead)) (v7 st) (g gm) (M' gm)) :
  FnOk P w K mg base CX0 (k+1) f fd ps (spL K us.length Φ (fnL us n g) u):=by
 refine F.ok S (λvs H Q E h=>?_) (λgK A outer s H vs Q E hr h=>?_)
 ·obtain⟨rs,v,gm,ds,d,rfl,hl,_⟩:=h;rw[a_,hl];exact om
 obtain⟨rs,v,gm,ds,d,rfl,hl,hd,hΦ,hm,q⟩:=h;obtain⟨t,p,r⟩:=(hb gm gK A outer s H E hr).out;refine⟨t,p,?_⟩;unfold fnL at hm;by_cases ha:argsOk us ds=rp
 ·rw[aC ha]at hm;obtain⟨o,h1,h2⟩:=bnd hm;cases o with
  |rt d'=>
   have jL:cz d'=cz d:=h2;cases jL
   have e:L2.start N (rs++[v])=rs.map cz++(cz v::aS n p4):=by
    unfold L2.start;rw[show N.length-(rs++[v]).length=n by rw[a_,hl];show N.length-(us.length+1)=n;lia];simp
   rw[e];have h0:=U1 (K:=K) (H:=H) ha hd 0;simp only[h_,bM]at h0;have rS:=h0.app (j9 (K:=K) (H:=H) (F:=[]) (m:=.fn (Φ gm)) (d:=ko) (o:=cz v) (f:=[]) ⟨rfl,v,rfl,λH' e'=>hΦ H' (by rw[K7]at e';exact e')⟩ (a2a n));refine r _ _ _ H H [] (.rt d) ⟨⟨_,rS,bJ,λa ha=>(nomatch ha)⟩,λa ha=>(nomatch ha),by rw[K7];exact Same.refl H⟩ h1 ?_;exact λv H' fp o nd fr e=>q v H' fp e o nd fr
  |_=>cases h2
 ·rw[aI ha]at hm;cases hm
section
variable {X:Cx}{M:List Md}{e0:Expr}{es:List Expr}{f:EvA}{u:Ty}{x y:bI}{p pv pos:fQ}
def a5Q:∀(U:List D) ds,i5 U=cz ds->ds.length=0:=λU ds h=>by cases h;rfl
def R7(h:∀U ds,fr U=cz ds->ds.length=n):∀U ds,b8 fa fr U=cz ds->ds.length=n+1:=λU ds q=>by
 obtain⟨x,h1,q⟩:=bnd q;obtain⟨xs,h2,q⟩:=bnd q;cases q
 rw[ba,h U xs h2]
noncomputable def PAL(X:Cx)(M:List Md)(es:List Expr)(f:EvA)(Ψ:Hp->V->Prop):Prop:=
 ∃t,PA X es t/\∀(U:List D) (Y:L2.St) (H P:Hp) (F:List au) (ds:List D) (Q:List V->Hp->Prop),StE X.K M U Y H P F->f U=cz ds->
  (∀vs v H',Same H H'->DenAll X.K H' vs ds->Ψ H' v->Q (vs++[v]) H')->t Y H Q
def R8(ha:PX X M a fa ca)(hr:PAL X M es fr Ψ)(hs:ao (a::es) X.env=(xn,cG a X.env)::ao es X.env:=by rfl):PAL X M (a::es) (b8 fa fr) Ψ:=by
 obtain⟨ta,pa,qa⟩:=ha.out;obtain⟨tr,pr,qr⟩:=hr;refine⟨_,k9 pa pr hs,λU Y H P F ds Q S hf q=>?_⟩;obtain⟨x,h1,hf⟩:=bnd hf;obtain⟨xs,h2,hf⟩:=bnd hf;cases hf
 exact qa U Y H P F _ _ S h1 λv H1 e1 r1=>qr U Y H1 P F _ _ (S.grow e1) h2 λvs w H2 e2 r2 hw=>q (v::vs) w H2 (e1.trans e2) (denAll_cons (r1.den.up e2) r2) hw
def a9e(i:Nat){Φ:Hp->V->Prop}(hm:M[i]?=cz (.fn Φ):=by rfl)(hN:X.N[i]?=cz y:=by rfl)(hv:Vis X.env.scope y:=by first|exact cg rfl|exact bP (cg rfl)|exact bP (bP rfl))(hd:(y==("__debug__":bI))=xn:=by decide)(jg:(y==("__classdict__":bI))=xn:=by decide)
  (hs:ao [.Name y pv] X.env=(xn,cG (.Name y pv) X.env)::ao [] X.env:=by rfl):PAL X M [.Name y pv] i5 λH v=>∀H',Same H H'->Φ H' v:=by
 refine⟨_,k9 (x9 hN hv hd jg) o7 hs,λU Y H P F ds Q S hf q=>?_⟩;cases hf
 obtain⟨v,h1,h2⟩:=S.getF hm;exact⟨v,h1,q [] v H (Same.refl _) denAll_nil λH' e=>h2 H' (i4.trans e)⟩
noncomputable def b0G(m:(List D->Option D)->List D->Option D)(gm:List D->Option D)(f:EvA):EvE:=λU=>(f U).bind (m gm)
def a4H(W:Has X.prog X.w X.K X.mg X.base x k ps (spL X.K n Φ m u))(hr:Room k X.A)(h:PAL X M (e0::es) f λH v=>∀H',Same H H'->Φ gm H' v)(hfl:∀U ds,f U=cz ds->ds.length=n)(hu:u.shut=rp:=by rfl)
  (hg:Gl X x:=by rfl) (lX:(x==("__debug__":bI))=xn:=by decide) (he:ao (e0::es) X.env=(xn,cG e0 X.env)::ao es X.env:=by rfl) (gh:(cC pos (ao es X.env)).any (·.1)=xn:=by rfl) :
  PX X M (.Call (.Name x p) (e0::es) [] pos) (b0G m gm f) (.new u):=by
 obtain⟨t,pa,qa⟩:=h;refine .mk ⟨_,a5o W hr pa hg lX he gh,λU Y H P F d Q S hf q=>?_⟩;obtain⟨ds,h1,hf⟩:=bnd hf;refine qa U Y H P F ds _ S h1 λvs v H1 e1 r1 hΦ=>?_
 show spL X.K n Φ m u ((vs++[v])++[]) H1 Q E0;rw[bM];refine⟨vs,v,gm,ds,d,rfl,by rw[r1.length];exact hfl U ds h1,r1,hΦ,hf,λv H' fp e o nd fr=>q v H' (e1.trans e) ⟨fp,o.shut_out (λa ha=>?_) u hu,nd,λa ha=>e1.free (fr a ha)⟩⟩;rcases az.mp ha with z|z
 ·exact o.lst u a z
 ·exact S.lst' (e1.trans e) a z
end
def a6W:∀(l r:List aj),kY l->kY r->kY (l++r):=by
 intro l
 fun_induction kY l with
 |case1=>intro r _ h;exact h
 |case2 a t b u c rest ih=>intro r h1 h2;simp only[bw,kY];exact ih r h1 h2
 |case3=>intro r h;exact h.elim
def b0H:∀(l r:List aj),kY l->mL pos (l++r)=cz cv->mL pos l=cz cv\/mL pos r=cz cv:=by
 intro l
 fun_induction kY l with
 |case1=>intro r _ h;exact .inr h
 |case2 a t b u c rest ih=>
  intro r h1 h2;simp only[bw,mL]at h2 ⊢
  split at h2
  ·rename_i hc
   rw[aC hc];exact .inl h2
  ·rename_i hc
   rw[aI hc];exact ih r h1 h2
 |case3=>intro r h;exact h.elim
def LamO(q:bI)(params:mQ)(body:Expr)(scope:gJ)(clos:List (bI×au))(H:Hp)(fa:au):Prop:=
 ∃pm c' m_ oc vs t b,H fa=cz (.frz (fu "<lambda>" q params body scope clos pm c' m_) (.own fa))/\H c'=cz (.frz oc (.own b))/\oc.data=.fields vs/\vs[1]?=cz (.str q t)
def LamO.up(h:LamO q params body scope clos H fa)(e:Same H H'):LamO q params body scope clos H' fa:=by
 obtain⟨pm,c',m_,oc,vs,t,b,h1,h2,h3⟩:=h;exact⟨pm,c',m_,oc,vs,t,b,e _ _ h1,e _ _ h2,h3⟩
def b9V(q:bI)(params:mQ)(body:Expr)(scope:gJ)(clos:List (bI×au)):TE:=λ_ H Q=>∀fa H',Same H H'->LamO q params body scope clos H' fa->Q (.ref fa) H'
def b0I{X:Cx}(hx:x∈M7)(hP:C5 X.K x=cz P)(hc:X.env.code=.ref c)(hd:gQ X.base c P)(hq:X.env.qual++"<lambda>"=V1 x)
  (yp:qA scope X.env=pure clos) (vb:defaultsOf params X.env=([],[])):PE X (.Lambda params body scope kM) (b9V (V1 x) params body scope clos):=by
 intro pins s Y H Q I h;refine PySem.W.kla_eval vb ?_;rw[hq];obtain⟨qs,t0,e1,e2⟩:=I.tabs x hx P hP;obtain⟨ps,xA,ht,hf⟩:=(show a6f H s.heap P qs from I.hok P _ e1);have xc:s.heap.Ns bV X.mg:=I.mod.glob.keeps I.bk;obtain⟨bm,ob,b1,b2,b3,b4,b5,b6⟩:=I.mod.bmain;have Fk:bV≠P:=λq=>by
  obtain⟨o,es,ep,e,lY,_⟩:=xc;rw[q,xA]at e;cases e;cases lY
 have FK:bm≠P:=λq=>by
  have e:=I.bk _ _ b3;rw[q,xA]at e;cases e;cases b4
 have FN:bm≠bV:=λq=>by
  obtain⟨o,es,ep,e,lY,_⟩:=I.mod.glob;rw[q,e]at b3;cases b3;rw[lY]at b6;cases b6
 have hB:s.heap.BuiltinsAt X.mg P:=⟨bm,ob,b1,b2,FN,FK,I.bk _ _ b3,b4,b5,b6⟩;have hC:gQ s.heap c P:=hd.keeps I.bk;cases hn:mL kM ps.toList with
 |some cv=>
  obtain⟨c',oc,vs,q,t,t',rfl,z2,z3,z4,z5⟩:=hf kM cv hn;rw[e2]at z5;have Dj:sT (V1 x) t0=sT q t':=aK z5;cases Dj
  refine PySem.W.kla_makeFunctionHit (mg:=X.mg) yp I.ok.glob xc hc hC xA ht hn hB λm_ h' tk hk hsz=>?_
  have pF:H h'.objs.size=p4:=I.hok.fresh hsz;have I':=I.laid (a:=h'.objs.size) (o:=.frz (fu "<lambda>" (V1 x) params body scope clos ((X.mg "__name__").getD .none) c' m_) (.own h'.objs.size)) (t':=tk) (h':=h'.push (fu "<lambda>" (V1 x) params body scope clos ((X.mg "__name__").getD .none) c' m_)) (λb u e=>af _ (hk b u e)) hsz ⟨aL _ rfl,_,aL _ rfl⟩;refine⟨.ref h'.objs.size,_,I',rfl,h _ _ (j6 pF _) ⟨_,c',m_,oc,vs,t,P,g9,?_,z3,z4⟩⟩;rw[f7 (m8 z2 pF)];exact z2
 |none=>
  refine PySem.W.kla_makeFunction (mg:=X.mg) yp I.ok.glob xc hc hC xA ht hn Fk hB λc' m_ h' tk Eh qM gX zL BP=>?_
  obtain⟨c2,oc,vs,t,rc,wQ,Co,tL⟩:=zL;cases rc
  have FR:P<s.heap.objs.size:=aM xA;have Aq:H c'=p4:=I.hok.fresh qM;have Ck:s.heap.objs.size<=h'.objs.size:=eB (iA qM gX);have pF:H h'.objs.size=p4:=I.hok.fresh Ck;have gN:c'≠h'.objs.size:=bK gX;have low:∀b u,H b=cz u->upd (upd H c' (.frz oc (.own P))) h'.objs.size (.frz (fu "<lambda>" (V1 x) params body scope clos ((X.mg "__name__").getD .none) c' m_) (.own h'.objs.size)) b=cz u:=λb u e=>by
   rw[f7 (m8 e pF),f7 (m8 e Aq)];exact e
  have zj:∀b,b<s.heap.objs.size->H b=p4->upd (upd H c' (.frz oc (.own P))) h'.objs.size (.frz (fu "<lambda>" (V1 x) params body scope clos ((X.mg "__name__").getD .none) c' m_) (.own h'.objs.size)) b=p4:=λb hb e=>by
   rw[f7 (bK (bH hb Ck)),f7 (bK (bH hb qM))];exact e
  have kp:∀b o,b≠P->s.heap.get? b=cz o->(h'.push (fu "<lambda>" (V1 x) params body scope clos ((X.mg "__name__").getD .none) c' m_)).get? b=cz o:=λb o hb e=>af _ (Eh b o hb e)
  have nP:∀b,H b=p4->b≠P:=λb e z=>by rw[z,e1]at e;cases e
  have I':=I.un (t':=tk) (h':=h'.push (fu "<lambda>" (V1 x) params body scope clos ((X.mg "__name__").getD .none) c' m_)) (H':=upd (upd H c' (.frz oc (.own P))) h'.objs.size (.frz (fu "<lambda>" (V1 x) params body scope clos ((X.mg "__name__").getD .none) c' m_) (.own h'.objs.size)))
   ⟨λb o e n _ _=>kp b o (nP b n) e,λb o e n _ _=>⟨o.slots,kp b o (nP b n) e⟩,λb o e n _=>zj b (aM e) n,λb o e _=>by
    by_cases hb:b=P
    ·exact⟨_,by rw[hb];exact af _ BP⟩
    ·exact⟨o,kp b o hb e⟩,λb xs e=>low b _ e,λb o u e=>low b _ e,λb Hk e=>⟨#[],by rw[low b _ e];simp⟩⟩ (λb u e=>by
    by_cases xt:b=h'.objs.size
    ·subst xt;rw[g9]at e;cases e
     exact⟨aL _ rfl,_,aL _ rfl⟩
    ·rw[f7 xt]at e;by_cases yt:b=c'
     ·subst yt;rw[g9]at e;cases e
      exact⟨af _ wQ,_,af _ wQ⟩
     ·rw[f7 yt]at e;by_cases Cr:b=P
      ·subst Cr;rw[e1]at e;cases e
       refine⟨_,af _ BP,?_,λpos cv z=>?_⟩
       ·have:(ps++#[fW kM.line,fW kM.col,be c']).toList=ps.toList++[fW kM.line,fW kM.col,be c']:=by simp
        rw[this];exact a6W _ _ ht trivial
       ·have:(ps++#[fW kM.line,fW kM.col,be c']).toList=ps.toList++[fW kM.line,fW kM.col,be c']:=by simp
        rw[this]at z;rcases b0H _ _ ht z with z|z
        ·obtain⟨c3,DR,Dr,q3,t3,t4,y1,y2,y3,y4,y5⟩:=hf pos cv z;exact⟨c3,DR,Dr,q3,t3,t4,y1,low _ _ y2,y3,y4,y5⟩
        ·have z':cv=.ref c':=by
          simp only[fW,mL]at z
          split at z
          ·exact (aK z).symm
          ·cases z
         refine⟨c',oc,vs,V1 x,t,t0,z',?_,Co,tL,e2⟩;rw[f7 gN,g9]
      ·refine (I.hok b u e).stay (λd v lY q=>kp d v (λz=>?_) q) (λd q=>low _ _ q) λd v q=>low _ _ q
       rcases lY with z'|z'
       ·exact Cr (z'.symm.trans z)
       ·rw[z,e1]at z';cases z')
  refine⟨.ref h'.objs.size,_,I',rfl,h _ _ (λb u e=>low b u e) ⟨_,c',m_,oc,vs,t,P,g9,?_,Co,tL⟩⟩;rw[f7 gN,g9]
def a9f(P:bA)(w:bX)(K:ae)(mg:bI->Option aj)(base:cf)(N:List bI)(q:bI)(scope:gJ)(f:au)(cd:aj)(cl:List (bI×au))(A:bL)(outer:List pZ)(s:aq)(H:Hp):Cx where
 prog:=P
 w:=w
 K:=K
 mg:=mg
 base:=base
 A:=A.deeper (jX q scope s.heap.objs.size f cd cl)
 N:=N
 s₀:=s
 H₀:=H
 env:=jX q scope s.heap.objs.size f cd cl
 outer:=outer
 stack:=jX q scope s.heap.objs.size f cd cl::outer
 ex:=[]
 calm:=rp
 fn:=λ_=>xn
 pn:=[]
 xe:=λ_ _=>False
structure LamScope (N ps ys:List bI) (sc:gJ) (cl:List (bI×au)):Prop where
 kind:sc.kind=.function
 co:sc.isCoroutine=xn
 gen:sc.isGenerator=xn
 nd:N.Nodup
 pre:N=ps++ys
 par:∀x∈ps,sc.names.lookup x=cz .local
 fre:∀y∈ys,sc.names.lookup y=cz .free
 ncell:∀x∈sc.names,x.2≠.cell
 has:(sc.names.all λx=>x.2 !=.free||(cl.lookup x.1).isSome)=rp
def CellsIn(cl:List (bI×au))(H:Hp):List bI->List V->Prop
 |[],vs=>vs=[]
 |y::ys,vs=>∃v r c ob uo,vs=v::r/\cl.lookup y=cz c/\H c=cz (.frz ob (.own c))/\ob.data=.cell (cz uo)/\RelV v uo/\CellsIn cl H ys r
section
variable {cl:List (bI×au)}{H H':Hp}
theorem CellsIn.up(e:Same H H'):∀{ys:List bI} {vs:List V},CellsIn cl H ys vs->CellsIn cl H' ys vs
 |[],_,h=>h
 |y::ys,_,h=>by
  obtain⟨v,r,c,ob,uo,h1,h2,h3,h4,h5,h6⟩:=h;exact⟨v,r,c,ob,uo,h1,h2,e _ _ h3,h4,h5,CellsIn.up e h6⟩
theorem CellsIn.len:∀{ys:List bI} {vs:List V},CellsIn cl H ys vs->vs.length=ys.length
 |[],_,h=>by rw[show _=[] from h];rfl
 |y::ys,_,h=>by
  obtain⟨v,r,c,ob,uo,rfl,h2,h3,h4,h5,h6⟩:=h;rw[ba,ba,CellsIn.len h6]
theorem CellsIn.get:∀{ys:List bI} {vs:List V} {i:Nat} {y:bI} {v:V},CellsIn cl H ys vs->ys[i]?=cz y->vs[i]?=cz v->∃c ob uo,cl.lookup y=cz c/\H c=cz (.frz ob (.own c))/\ob.data=.cell (cz uo)/\RelV v uo
 |[],_,i,y,v,_,e,_=>by simp at e
 |y0::ys,_,0,y,v,h,e1,e2=>by
  obtain⟨v',r,c,ob,uo,rfl,h2,h3,h4,h5,h6⟩:=h;have GC:y0=y:=by simpa using e1
  have Gz:v'=v:=by simpa using e2
  subst GC Gz;exact⟨c,ob,uo,h2,h3,h4,h5⟩
 |y0::ys,_,i+1,y,v,h,e1,e2=>by
  obtain⟨v',r,c,ob,uo,rfl,h2,h3,h4,h5,h6⟩:=h;exact CellsIn.get h6 (by simpa using e1) (by simpa using e2)
end
def b2M(cl:List (bI×au))(H:Hp):Prop:=∀y c,cl.lookup y=cz c->∃ob uo,H c=cz (.frz ob (.own c))/\ob.data=.cell uo
noncomputable def fnE(us:List Ty)(rZ:List D)(f:EvE):List D->Option D:=λds=>if argsOk us ds then f (ds++rZ) else p4
theorem b6i{K:ae}{H:Hp}:∀{vs:List V} {ds:List D},DenAll K H vs ds->StAll K H [] (aS vs.length (.own .f)) ds (vs.map cz) []
 |_,[],h=>by rw[h.nil_inv];exact L7
 |_,d::ds,h=>by
  obtain⟨v,r,rfl,h1,h2⟩:=h.cons_inv;refine j9 (K:=K) (H:=H) (F:=[]) (m:=.own .f) (f:=[]) (g:=[]) ⟨v,rfl,?_⟩ (b6i h2);simp only[Own,K7];exact⟨trivial,h1⟩
theorem a2b:∀(ps:List α) (us:List β),((ps.zip us).map (·.1)).Sublist ps
 |[],_=>by rw[C_];exact oV _
 |p::ps,[]=>by rw[List.zip_nil_right];exact List.nil_sublist _
 |p::ps,u::us=>by rw[eN,aA];exact (a2b ps us).cons₂ p
def a3p{ps:List bI}{us:List aj}:∀{i:Nat} {y:bI} {v:aj},ps.Nodup->ps[i]?=cz y->us[i]?=cz v->(ps.zip us).reverse.lookup y=cz v:=by
 intro i y v nd h1 h2;have hm:(y,v)∈(ps.zip us).reverse:=by
  rw[lx];exact bz (by rw[kF];exact⟨h1,h2⟩)
 have hk:(((ps.zip us).reverse).map (·.1)).Nodup:=by
  rw[GW];have h0:((ps.zip us).map (·.1)).Nodup:=nd.sublist (a2b ps us);exact vO.mpr (h0.imp λz=>dN z)
 have key:∀l:List (bI×aj),(l.map (·.1)).Nodup->(y,v)∈l->l.lookup y=cz v:=by
  intro l
  induction l with
  |nil=>intro _ h;cases h
  |cons p l ih=>
   intro hn hm;rw[aA,bB]at hn;obtain⟨k,z⟩:=p;rcases aF.mp hm with e|e
   ·cases e;simp[List.lookup]
   ·have:(y==k)=xn:=by
     rw[hZ];intro q;exact hn.1 (q▸bj.mpr ⟨_,e,rfl⟩)
    rw[gn,this];exact ih hn.2 e
 exact key _ hk hm
def b5d{P:bA}{w:bX}{K:ae}{mg:bI->Option aj}{base:cf}{k:Nat}{q:bI}{params:mQ}{body:Expr}{scope:gJ}{cl:List (bI×au)}{N ps ys:List bI}{us:List Ty}{u:Ty}{f:EvE}{mv:List V}{rZ:List D}{H:Hp}{fa:au}
  (L:LamO q params body scope cl H fa) (S:LamScope N ps ys scope cl) (uW:∀x y c,cl.lookup x=cz c->cl.lookup y=cz c->x=y) (hC:CellsIn cl H ys mv) (yC:b2M cl H) (hD:DenAll K H mv rZ) (om:us.length=ps.length)
  (oE:∀(pm:aj) (c:au) (m_:aj) (us:List aj),us.length=ps.length->rH (PySem.W.kla_fn "<lambda>" q params body scope cl pm (.ref c) m_) ⟨us,[]⟩=pure (ps.zip us))
  (hb:∀(c:au) (A:bL) (outer:List pZ) (s:aq) (H:Hp),Room k (A.deeper (jX q scope s.heap.objs.size fa (.ref c) cl))->PX (a9f P w K mg base N q scope fa (.ref c) cl A outer s H) (us.map .own++aS ys.length (.own .f)) body f (.new u)) :
  FnV P w K mg base (k+1) ps.length u (fnE us rZ f) H (.ref fa):=by
 obtain⟨pm,c',m_,oc,Ds,t0,b0,l1,l2,l3,l4⟩:=L;refine⟨fa,_,rfl,l1,⟨_,rfl⟩,λA outer s as vs Q E hr e0 rv ⟨ds,d,hl,hd,hm,hq⟩=>?_⟩;obtain⟨C,memC,wz⟩:∃C:List au,(∀c∈C,∃y,cl.lookup y=cz c)/\∀y c,cl.lookup y=cz c->c∈C:=
  ⟨(cl.map (·.1)).filterMap λy=>cl.lookup y,λc hc=>let⟨y,_,e⟩:=eO.mp hc;⟨y,e⟩,λy c e=>eO.mpr ⟨y,bj.mpr ⟨(y,c),cu e,rfl⟩,e⟩⟩
 have J:Junk H C:=λa ha u e=>by
  obtain⟨y,hy⟩:=memC a ha;obtain⟨ob,uo,h1,_⟩:=yC y a hy;rw[h1]at e;cases e
  exact⟨ob,rfl⟩
 have D_:∀a∈C,∃u,H a=cz u:=λa ha=>by
  obtain⟨y,hy⟩:=memC a ha;obtain⟨ob,uo,h1,_⟩:=yC y a hy;exact⟨_,h1⟩
 have lim:s.heap.NoLimit:=e0.mod.nolimit.keeps λb o e=>(e0.bs b o e).1
 have ho:s.heap.get? fa=cz (fu "<lambda>" q params body scope cl pm c' m_):=(e0.hok fa _ l1).1;have Fy:s.heap.CodeRec (.ref c') q:=⟨c',oc,Ds,t0,rfl,(e0.hok c' _ l2).1,l3,l4⟩;have vf:as.length=ps.length:=by rw[<-rv.length];exact hl
 have DT:ps.Nodup:=by have:=S.nd;rw[S.pre]at this;exact this.sublist (il _ _)
 refine PySem.W.kla_callFunE hr.depth ho rfl S.co S.gen rfl Fy ?_;rw[oE pm c' m_ as vf];refine ah (wpAny_newFunctionEnv S.ncell (λy hy=>S.par _ (ir hy).1) (λh₁ rU zI=>⟨lim.fresh _ zI,?_⟩) S.kind);show iZ _ _ (.expr body (jX q scope s.heap.objs.size fa (.ref c') cl)) _ _;have pS:∀b o,s.heap.get? b=cz o->h₁.get? b=cz o:=λb o e=>zI.extBut b o (bK (aM e)) (af _ e)
 have uA:∀b:au,b∉(a9f P w K mg base N q scope fa (.ref c') cl A outer s (VS.cut H C)).ex:=λb z=>absurd (show b∈([]:List au) from z) (by simp)
 have EW:N.length=ps.length+ys.length:=by rw[S.pre,a_]
 have I:Inv (a9f P w K mg base N q scope fa (.ref c') cl A outer s (VS.cut H C)) [] (vs.map cz++mv.map cz) (VS.cut H C) {s with heap:=h₁,toks:=s.toks+(ps.zip as).length}:=by
  refine⟨⟨e0.mod,S.kind,rfl,rfl,ay _,uW,λx hx=>?_,λx c hx _=>(nomatch hx),λ_=>hr.hd,bL.frames_deeper e0.frames,.inr ⟨rfl,rfl⟩,λb z=>absurd z (uA b),λb o e=>⟨(e0.bs b o e).1,z9 (e0.bs b o e).2⟩,e0.bsz,λb _ _=>uA b,λb z=>absurd z (uA b),e0.funs,λb hb=>z9 (e0.frf b hb),b0F e0.tabs J⟩,
   rfl,e0.bare,Un.kept pS,⟨_,rU,λi x v h1 h2 h3=>?_⟩,λx c e=>?_,z9 (e0.hok.fresh (ay _)),λx c e=>V7 (wz x c e),λp hp=>absurd (show p∈([]:List (au×gE)) from hp) (by simp),(a6V e0.hok J).kept pS,?_⟩
  ·have sr:scope.names.lookup x=cz .cell\/scope.names.lookup x=cz .free:=hx;rcases sr with z|z
   ·exact absurd rfl (S.ncell _ (cu z))
   ·have w:=bD.mp S.has _ (cu z);rw[iw]at w;rcases w with w|w
    ·exact absurd (show (fT !=fT)=rp from w) (by decide)
    ·exact ij.mp w
  ·have mq:(ps++ys)[i]?=cz x:=by rw[<-S.pre];exact h1
   by_cases hi:i<ps.length
   ·rw[eJ hi]at mq;rw[eJ (by rw[ag,hl];exact hi),aZ]at h2;have jL:vs[i]?=cz v:=by
     cases e:vs[i]? with
     |none=>rw[e]at h2;cases h2
     |some a=>rw[e]at h2;cases h2;rfl
    obtain⟨u',hu,r⟩:=rv.get jL;exact⟨u',r,.inl ⟨S.par x (bz mq),a3p DT mq hu⟩⟩
   ·rw[cY (by lia)]at mq;rw[cY (by rw[ag,hl];lia),ag,aZ,hl]at h2;have jL:mv[i-ps.length]?=cz v:=by
     cases e:mv[i-ps.length]? with
     |none=>rw[e]at h2;cases h2
     |some a=>rw[e]at h2;cases h2;rfl
    obtain⟨c,ob,uo,z1,z2,z3,z4⟩:=hC.get mq jL;exact⟨uo,z4,.inr ⟨.inr (S.fre x (bz mq)),c,z1,ob,pS c ob (e0.hok c _ z2).1,z3⟩⟩
  ·obtain⟨ob,uo,z1,z2⟩:=yC x c e;exact⟨uo,ob,pS c ob (e0.hok c _ z1).1,z2⟩
  ·show _=N.length;rw[a_,ag,ag,hl,hC.len,EW]
 obtain⟨t,pt,qt⟩:=(hb c' A outer s (VS.cut H C) (hr.deeper _)).out;unfold fnE at hm;by_cases ha:argsOk us ds=rp
 ·rw[aC ha]at hm;have An:DenAll K (VS.cut H C) vs ds:=DenAll.junk J ds hd;have FF:DenAll K (VS.cut H C) mv rZ:=DenAll.junk J rZ hD;have h0:=U1 (K:=K) (H:=VS.cut H C) ha An 0;simp only[h_,bM]at h0;have h1:=b6i FF;rw[hC.len]at h1;have SE:StE K (us.map .own++aS ys.length (.own .f)) (ds++rZ) (vs.map cz++mv.map cz) (VS.cut H C) (VS.cut H C) []:=⟨⟨_,h0.app h1,λa ha=>(nomatch ha)⟩,λa ha=>(nomatch ha),by rw[K7];exact Same.refl _⟩;refine PySem.W.kla_codeExpr (de (pt [] _ _ (VS.cut H C) (λv H'=>Same (VS.cut H C) H'/\ResR K (.new u) (VS.cut H C) H' [] v d) I (qt (ds++rZ) _ (VS.cut H C) (VS.cut H C) [] d _ SE hm λv H' e r=>⟨e,r⟩)) (λv s' hs=>?_) λe s' hs=>(show False from hs).elim);obtain⟨v',H',J',r',e',fp,o,nd,fr⟩:=hs;have qg:∀c∈C,H' c=p4:=λc hc=>by
   obtain⟨y,hy⟩:=memC c hc;exact J'.freeC y c hy
  have inn:∀{b:au} {o:HO},H' b=cz o->a6U C H H' b=cz o:=λ{b o} q=>by
   rw[p7 (λz=>by rw[qg b z]at q;cases q)];exact q
  have nC:∀{b:au},H b=p4->b∉C:=λ{b} n z=>by
   obtain⟨u,hu⟩:=D_ b z;rw[n]at hu;cases hu
  have CJ:∀a∈fp,a∉C:=λa ha z=>by
   obtain⟨ys,q⟩:=o.lst u a ha;rw[qg a z]at q;cases q
  refine (show CE outer P w H s Q v s' from⟨v',a6U C H H',J'.os,J'.bare,⟨λb o q n hb hx=>J'.base.keep b o q (z9 n) hb hx,λb o q n hb hx=>J'.base.slot b o q (z9 n) hb hx,λb o q n hx=>?_,J'.base.there,λb xs e=>?_,λb o u e=>?_,λb ps e=>?_⟩,λb o e=>?_,r',hq v' _ fp (λb o e=>?_) ?_ nd λa ha=>?_⟩)
  ·rw[p7 (nC n)];exact J'.base.free b o q (z9 n) hx
  ·have nb:=J.out e λo z=>(nomatch z)
   rw[p7 nb];exact J'.base.tups b xs (j5 nb e)
  ·by_cases hb:b∈C
   ·rw[a0O hb];exact e
   ·rw[p7 hb];exact J'.base.frzs b o u (j5 hb e)
  ·have nb:=J.out e λo z=>(nomatch z)
   obtain⟨more,z⟩:=J'.base.tbls b ps (j5 nb e);exact⟨more,by rw[p7 nb];exact z⟩
  ·by_cases hb:b∈C
   ·rw[a0O hb]at e;obtain⟨ob,rfl⟩:=J b hb o e;have z:=(e0.hok b _ e).1;have z':=J'.base.keep b ob z (V7 hb) (λy=>by rw[e0.frf b y]at e;cases e) (by intro y;exact absurd (show b∈([]:List au) from y) (by simp));exact⟨z',_,z'⟩
   ·rw[p7 hb]at e;exact (J'.hok b o e).stay (λ_ _ _ q=>q) (λb q=>inn q) λb u q=>inn q
  ·by_cases hb:b∈C
   ·rw[a0O hb];exact e
   ·rw[p7 hb];exact e' b o (j5 hb e)
  ·refine Own.frame (λb o' hb=>?_) u o λa ha=>p7 (CJ a ha)
   obtain⟨n1,n2⟩:=p5 hb;exact j5 (λz=>n1 (aO _ z)) (inn n2)
  ·have:=fr a ha;rw[X3 (CJ a ha)]at this;exact this
 ·rw[aI ha]at hm;cases hm
def a9g(X:Cx)(cl:List (bI×au)):List bI->List Nat->Prop
 |[],js=>js=[]
 |y::ys,js=>∃j r c,js=j::r/\X.N[j]?=cz y/\X.env.kindOf y=cz .cell/\X.env.cells.lookup y=cz c/\cl.lookup y=cz c/\a9g X cl ys r
def b9W(X:Cx)(cl:List (bI×au)):Prop:=∀p∈cl,X.env.cells.lookup p.1=cz p.2/\X.fn p.1=rp
def b5e(Y:L2.St):List Nat->List V->Prop
 |[],vs=>vs=[]
 |j::js,vs=>∃v r,vs=v::r/\Y[j]?=cz (cz v)/\b5e Y js r
def b8h(X:Cx)(cl:List (bI×au))(ys:List bI)(js:List Nat)(sp:Sp)(t:TA):TE:=λY H Q=>t Y H λvs H1=>∃mv,b5e Y js mv/\
 ∀(H2:Hp) (C:List au),(∀x y c,cl.lookup x=cz c->cl.lookup y=cz c->x=y)->Same H1 H2->CellsIn cl H2 ys mv->b2M cl H2->Junk H2 C->(∀b,b∉C->H2 b=H1 b)->(∀b∈C,H1 b=p4)->sp vs H2 (λv H'=>Junk H' C->Q v (VS.cut H' C)) E0
theorem a6X{cl:List (bI×au)}(I:Inv X pins Y H s)(h2:∀y c,cl.lookup y=cz c->∀ob,s.heap.get? c=cz ob->H2 c=cz (.frz ob (.own c))) :
  ∀{ys:List bI} {js:List Nat} {mv:List V},a9g X cl ys js->b5e Y js mv->CellsIn cl H2 ys mv
 |[],js,mv,h,q=>by
  rw[show js=[] from h]at q;exact q
 |y::ys,_,mv,h,q=>by
  obtain⟨j,r,c,rfl,h1,h3,h4,h5,h6⟩:=h;obtain⟨v,rs,rfl,q1,q2⟩:=q;obtain⟨m,hn,hl⟩:=I.loc;obtain⟨u,ru,lk⟩:=hl j y v h1 q1 (.inr (.inl h3));rcases lk with⟨k,_⟩|⟨k,c',e',ob,z1,z2⟩
  ·rw[h3]at k;cases k
  ·rw[h4]at e';cases e'
   exact⟨v,rs,c,ob,u,rfl,h5,h2 y c h5 ob z1,z2,ru,a6X I h2 h6 q2⟩
section
variable {X:Cx}{k:Nat}{f:au}{fd:dR}{ps:List bI}{sp:Sp}{x:bI}{p pos:fQ}{e:Expr}{es:List Expr}{t:TA}{cl:List (bI×au)}{ys:List bI}{js:List Nat}
def b2N(F:FnOk X.prog X.w X.K X.mg X.base CX0 k f fd ps sp)(hr:Room k X.A)(hg:Gl X x)(hm:X.mg x=cz (.ref f))(hk:gj X.K (.ref f)=rp)(hb:Binds X.K fd ps [])(ha:PA X (e::es) t)(vc:a9g X cl ys js)(jT:b9W X cl)
  (lX:(x==("__debug__":bI))=xn) (he:ao (e::es) X.env=(xn,cG e X.env)::ao es X.env) (gh:(cC pos (ao es X.env)).any (·.1)=xn) :
  PE X (.Call (.Name x p) (e::es) [] pos) (b8h X cl ys js sp t):=by
 intro pins s0 Y H0 Q I0 h;refine fV (a5f I0 hg hm ?_ lX);refine AX (h₀:=X.base) I0.ok.mod.kin hk (L2.thn (ha pos pins s0 Y H0 _ I0 h) λus s ⟨vs,H,I,r,mv,Fx,q⟩=>⟨I.kIn,?_⟩) he gh;obtain⟨C,memC,wz⟩:∃C:List au,(∀c∈C,∃y,cl.lookup y=cz c)/\∀y c,cl.lookup y=cz c->c∈C:=
  ⟨(cl.map (·.1)).filterMap λy=>cl.lookup y,λc hc=>let⟨y,_,e⟩:=eO.mp hc;⟨y,e⟩,λy c e=>eO.mpr ⟨y,bj.mpr ⟨(y,c),cu e,rfl⟩,e⟩⟩
 have pV:∀c∈C,∃y,X.env.cells.lookup y=cz c/\X.fn y=rp:=λc hc=>by
  obtain⟨y,hy⟩:=memC c hc;exact⟨y,jT _ (cu hy)⟩
 have qg:∀c∈C,H c=p4:=λc hc=>by
  obtain⟨y,hy,_⟩:=pV c hc;exact I.freeC y c hy
 have nD:∀c∈C,∃ob v,s.heap.get? c=cz ob/\ob.data=.cell v:=λc hc=>by
  obtain⟨y,hy,_⟩:=pV c hc;obtain⟨v,ob,z1,z2⟩:=I.cell y c hy;exact⟨ob,v,z1,z2⟩
 have tS:∀c∈C,X.s₀.heap.objs.size<=c:=λc hc=>by
  obtain⟨y,hy,hf⟩:=pV c hc;exact I.ok.cab y c hf hy
 obtain⟨H2,rE,nr⟩:∃H2:Hp,(∀c∈C,∀ob,s.heap.get? c=cz ob->H2 c=cz (.frz ob (.own c)))/\∀b,b∉C->H2 b=H b:=
  ⟨λb=>if b∈C then (s.heap.get? b).map (λo=>HO.frz o (.own b)) else H b,λc hc ob z=>by show (if c∈C then _ else _)=_;rw[aC hc,z];rfl,λb hb=>aI hb⟩
 have mz:Same H H2:=λb o e=>by
  rw[nr b (λz=>by rw[qg b z]at e;cases e)];exact e
 have J2:Junk H2 C:=λa hm u e=>by
  obtain⟨ob,v,z1,_⟩:=nD a hm;rw[rE a hm ob z1]at e;cases e
  exact⟨ob,rfl⟩
 have qw:HOk X.prog X.w H2 s.heap:=λb o e=>by
  by_cases hb:b∈C
  ·obtain⟨ob,v,z1,_⟩:=nD b hb;rw[rE b hb ob z1]at e;cases e
   exact⟨z1,_,z1⟩
  ·rw[nr b hb]at e;exact (I.hok b o e).stay (λ_ _ _ q=>q) (λb q=>mz _ _ q) λb u q=>mz _ _ q
 have e0:Env0 X.prog X.w X.K X.mg X.base X.A X.stack s H2:=by
  have z:=I.env0;refine⟨z.frames,z.mod,λb o e=>⟨(z.bs b o e).1,?_⟩,z.bsz,z.funs,λb hb=>?_,qw,z.bare,λx hx p e=>?_⟩
  ·rw[nr b λhc=>absurd (bH (aM e) (cU I.ok.bsz (tS b hc))) (dQ _)];exact (z.bs b o e).2
  ·rw[nr b λhc=>?_]
   ·exact z.frf b hb
   ·rcases aF.mp (I.stkSub b hb) with e|e
    ·obtain⟨y,hy,_⟩:=pV b hc;exact I.cne y b hy e
    ·obtain⟨_,o,ho,_⟩:=I.ok.funs.mem e;exact absurd (bH (aM ho) (tS b hc)) (dQ _)
  ·obtain⟨qs,t',e1,e2⟩:=z.tabs x hx p e;exact⟨qs,t',mz _ _ e1,e2⟩
 have qZ:=q H2 C (λx y c z1 z2=>I.ok.inj x y c (jT _ (cu z1)).1 (jT _ (cu z2)).1) mz (a6X I (λy c hy ob z=>rE c (wz y c hy) ob z) vc Fx) (λy c hy=>by
  obtain⟨ob,v,z1,z2⟩:=nD c (wz y c hy);exact⟨ob,v,rE c (wz y c hy) ob z1,z2⟩) J2 nr qg
 have r2:Vals vs (us++[]):=by rw[bM];exact r
 have hl:(us++[]).length=ps.length:=by rw[<-r2.length];exact F.len _ _ _ _ qZ
 refine wpAny_call (jx (F.run X.A X.stack s H2 ⟨us,[]⟩ (us++[]) vs _ E0 hr e0 (hb s us I.kIn hl) r2 qZ) λr s' hq=>?_);cases r with
 |error e=>exact cP hq
 |ok fl=>
  cases fl with
  |next=>exact cP hq
  |brk=>exact cP hq
  |cont=>exact cP hq
  |ret u=>
   obtain⟨v,H',os,bare,un,rf,rv,qv⟩:=(show CE X.stack X.prog X.w H2 s _ u s' from hq);have fz:∀c∈C,∃ob,s.heap.get? c=cz ob/\H' c=cz (.frz ob (.own c))/\s'.heap.get? c=cz ob:=λc hc=>by
    obtain⟨ob,v,z1,_⟩:=nD c hc;have z2:=un.frzs c ob _ (rE c hc ob z1);exact⟨ob,z1,z2,(rf c _ z2).1⟩
   have J':Junk H' C:=λa hm u e=>by
    obtain⟨ob,_,z,_⟩:=fz a hm;rw[z]at e;cases e
    exact⟨ob,rfl⟩
   have n2:∀b,H b=p4->b∉C->H2 b=p4:=λb n hb=>by rw[nr b hb];exact n
   have oC:∀b u,H b=cz u->b∉C:=λb u e z=>by rw[qg b z]at e;cases e
   have Dt:Un (frs X.stack) [] H (VS.cut H' C) s.heap s'.heap:=by
    refine⟨λb o e n hb hx=>?_,λb o e n hb hx=>?_,λb o e n hx=>?_,un.there,λb xs e=>?_,λb o u e=>?_,λb ps e=>?_⟩
    ·by_cases hc:b∈C
     ·obtain⟨ob,z1,_,z3⟩:=fz b hc;rw[e]at z1;cases z1
      exact z3
     ·exact un.keep b o e (n2 b n hc) hb hx
    ·by_cases hc:b∈C
     ·obtain⟨ob,z1,_,z3⟩:=fz b hc;rw[e]at z1;cases z1
      exact⟨o.slots,z3⟩
     ·exact un.slot b o e (n2 b n hc) hb hx
    ·by_cases hc:b∈C
     ·exact V7 hc
     ·exact z9 (un.free b o e (n2 b n hc) hx)
    ·exact j5 (oC b _ e) (un.tups b xs (mz _ _ e))
    ·exact j5 (oC b _ e) (un.frzs b o u (mz _ _ e))
    ·obtain⟨more,z⟩:=un.tbls b ps (mz _ _ e);exact⟨more,j5 (oC b _ e) z⟩
   exact⟨v,VS.cut H' C,I.call' os Dt (a6V rf J') bare (λb z=>absurd z (by simp)),rv,qv J'⟩
end
def P8(scope:gJ)(env:pZ):List (bI×au):=scope.names.foldl (λcs p=>if p.2==.free then (match env.cells.lookup p.1 with|some c=>(p.1,c)::cs|none=>cs) else cs) []
def a8m:∀p∈P8 scope env,env.cells.lookup p.1=cz p.2:=by
 have key:∀(l:List (bI×jC)) (cs:List (bI×au)),(∀p∈cs,env.cells.lookup p.1=cz p.2)->∀p∈l.foldl (λcs p=>if p.2==.free then (match env.cells.lookup p.1 with|some c=>(p.1,c)::cs|none=>cs) else cs) cs,env.cells.lookup p.1=cz p.2:=by
  intro l
  induction l with
  |nil=>intro cs h;exact h
  |cons a l ih=>
   intro cs h;rw[qG];refine ih _ λp hp=>?_
   split at hp
   ·split at hp
    ·rename_i c hc
     rcases aF.mp hp with e|e
     ·rw[e];exact hc
     ·exact h p e
    ·exact h p hp
   ·exact h p hp
 exact key _ _ λp hp=>(nomatch hp)
def b5f{X:Cx}(pF:∀x,X.fn x=rp:=by exact λ_=>rfl):b9W X (P8 scope X.env):=λp hp=>⟨a8m p hp,pF _⟩
section
variable {X:Cx}{M:List Md}{e0:Expr}{es:List Expr}{f:EvA}{u uf:Ty}{x:bI}{p pos kM:fQ}{params:mQ}{body:Expr}{scope:gJ}{ys:List bI}{js:List Nat}
def b5g(hx:y∈M7)(hP:C5 X.K y=cz P)(hc:X.env.code=.ref c)(hd:gQ X.base c P)(hq:X.env.qual++"<lambda>"=V1 y)
  (yp:qA scope X.env=pure (P8 scope X.env):=by rfl) (vb:defaultsOf params X.env=([],[]):=by rfl) (hs:ao [.Lambda params body scope kM] X.env=(xn,cG (.Lambda params body scope kM) X.env)::ao [] X.env:=by rfl) :
  PAL X M [.Lambda params body scope kM] i5 λH v=>∃fa,v=.ref fa/\LamO (V1 y) params body scope (P8 scope X.env) H fa:=by
 refine⟨_,k9 (b0I hx hP hc hd hq yp vb) o7 hs,λU Y H P F ds Q S hf q=>?_⟩;cases hf
 exact λfa H' e L=>q [] (.ref fa) H' e denAll_nil ⟨fa,rfl,L⟩
def b8i(M:List Md):List Nat->Prop
 |[]=>True
 |j::js=>(∃w,M[j]?=cz (.own w))/\b8i M js
theorem a9h{K:ae}{U:List D}{Y:L2.St}{H P:Hp}{F:List au}(S:StE K M U Y H P F):∀{js:List Nat},b8i M js->∃mv,b5e Y js mv/\DenAll K H mv (js.map λj=>U.getD j .none)
 |[],_=>⟨[],rfl,denAll_nil⟩
 |j::js,h=>by
  obtain⟨⟨w,hw⟩,h2⟩:=h;obtain⟨v,fp,e,o,_⟩:=S.get hw;obtain⟨mv,q1,q2⟩:=a9h S h2;exact⟨v::mv,⟨v,mv,rfl,e,q1⟩,denAll_cons (o.den w) q2⟩
noncomputable def b5h(m:(List D->Option D)->List D->Option D)(us:List Ty)(js:List Nat)(fb:EvE)(f:EvA):EvE:=λU=>(f U).bind (m (fnE us (js.map λj=>U.getD j .none) fb))
end
def b2O{P:bA}{w:bX}{K:ae}{mg:bI->Option aj}{base:cf}{x:bI}{st:iz}{f:au}{fd:dR}{N ps:List bI}{k n:Nat}{us:List Ty}{u:Ty}{g:EvS}{M':List Md}(F:Fun K x x st f fd)(S:FnScope N ps (i6 st))(om:us.length=ps.length)(hn:N.length=ps.length+n)
  (hb:∀(A:bL) (outer:List pZ) (s:aq) (H:Hp) (E:XK),Room k (A.deeper (jM x (i6 st) s.heap.objs.size f fd.code))->PSsX (a0w CX0 P w K mg base N x (i6 st) f fd.code A outer s H E).nox u [] (us.map .own++aS n .dead) (v7 st) g M') :
  FnOk P w K mg base CX0 (k+1) f fd ps (spD K ps.length (fnD us n g) u):=by
 obtain⟨oc,od,kV,doc,pm,an,gK,ct,qm,rfl,lk,jg⟩:=F.ex;refine b5X lk jg S (λvs H Q E ⟨ds,d,hl,_⟩=>hl) λA outer s H vs Q E hr ⟨ds,d,hl,hd,hm,q⟩=>?_
 obtain⟨t,p,r⟩:=(hb A outer s H E hr).out;refine⟨t,p.nox,?_⟩;unfold fnD at hm;by_cases ha:argsOk us ds=rp
 ·rw[aC ha]at hm;obtain⟨o,h1,h2⟩:=bnd hm;cases o with
  |rt d'=>
   have jL:cz d'=cz d:=h2;cases jL
   have e:L2.start N vs=vs.map cz++aS n p4:=by
    unfold L2.start;rw[show N.length-vs.length=n by lia]
   rw[e];refine r _ (ds++aS n ko) _ H H [] (.rt d) ⟨⟨[],U1 ha hd n,bJ,λa ha=>(nomatch ha)⟩,λa ha=>(nomatch ha),by rw[K7];exact Same.refl H⟩ h1 ?_;exact λv H' fp o nd fr e=>q v H' fp e o nd fr
  |_=>cases h2
 ·rw[aI ha]at hm;cases hm
def b2P{K:ae}{base:cf}{fd:dR}(e:(C5 K x).isSome=rp)(X:K.In base)(G:base.Ns bV mg)(a:gZ K bV x=cz (cz (.ref f)))(l:K.lookup f=cz ⟨oc,od,.func fd,sl⟩) :
  ∃c p,fd.code=.ref c/\C5 K x=cz p/\gQ base c p:=by
 obtain⟨p,hp⟩:=ij.mp e;obtain⟨f',Hr,Hq,CK,Bl,c,h1,h2,h3,h4⟩:=a4w hp X G;have h5:=kO X G a;rw[h1]at h5;cases h5
 rw[l]at h2;cases h2
 exact⟨c,p,h3,hp,h4⟩
end VS
namespace VS
open PySem PySem.Spec L2
def b5i:FnOk P w K mg base CX0 k f fd ps (spD K n (λ_=>p4) u):=
 ⟨λ_ _ _ _ ⟨_,_,_,_,hm,_⟩=>(nomatch hm),λ_ _ _ _ _ _ _ _ _ _ _ _ _ ⟨_,_,_,_,hm,_⟩=>(nomatch hm)⟩
section
variable {X:Cx}{M:List Md}{a b:Expr}{fa fb:EvE}{ca cb:Cat}{pos p:fQ}
def b5j:OpR X (fA .Add) (λx y H Q=>∃a b ys,x=.ref a/\y=.ref b/\SqT X.K H a []/\SqT X.K H b ys/\Q (.ref b) H):=by
 intro pins s Y H x y v u Q I rx ry h;obtain⟨a,b,ys,rfl,rfl,ha,hb,q⟩:=h;cases rx
 cases ry
 obtain⟨cQ,r1,p1,_⟩:=I.tuple ha;obtain⟨sk,r2,p2,_⟩:=I.tuple hb;cases r1
 obtain⟨⟨cls,dd,data,sl⟩,ho,hc,n,hd⟩:=id p1;obtain⟨⟨xO,qP,data2,qJ⟩,uP,nT,n2,hd2⟩:=id p2;simp only at hc hd nT hd2;subst hc hd nT hd2;exact GH ⟨_,ho,rfl⟩ ⟨_,uP,rfl⟩ sj yW lF lj (kT _ _) (PyProof.Rows.tuple_addW0 a b _ _ n n2 dd qP sl qJ (by simp)) ⟨ho,uP,⟨.ref b,H,I,rfl,q⟩⟩
def a0P:D->D->Option D
 |.tuple [],.tuple es=>V9 (.tuple es)
 |x,y=>b2j x y
def b5k(ha:PX X M a fa ca)(hb:PX X M b fb cb):PX X M (.BinOp a .Add b pos) (e2 a0P fa fb) (.new .i):=by
 obtain⟨ta,pa,qa⟩:=ha.out;obtain⟨tb,pb,qb⟩:=hb.out;have DN:OpR X (fA .Add) (λx y H Q=>(∃a b ys,x=V.ref a/\y=V.ref b/\SqT X.K H a []/\SqT X.K H b ys/\Q (.ref b) H)\/b5Y X.K x y H Q):=λpins s Y H x y v u Q I rx ry h=>h.elim (λh=>b5j pins s Y H x y v u Q I rx ry h) λh=>b4i pins s Y H x y v u Q I rx ry h
 refine .mk ⟨_,b1n DN pa pb,λU Y H P F d Q S hf q=>?_⟩;obtain⟨x,y,h1,h2,h3⟩:=C3 hf;refine qa U Y H P F _ _ S h1 λv H1 e1 r1=>qb U Y H1 P F _ _ (S.grow e1) h2 λw H2 e2 r2=>?_
 by_cases c:∃es,x=.tuple []/\y=.tuple es
 ·obtain⟨es,rfl,rfl⟩:=c;obtain⟨rfl,hi⟩:=Q3 (show V9 (.tuple es)=cz d from h3);obtain⟨pp,xs,rfl,k1,k2⟩:=(r1.den.up e2).tup_inv;obtain⟨qq,ys,rfl,j1,j2⟩:=r2.den.tup_inv;cases k2.nil_inv
  exact .inl ⟨pp,qq,ys,rfl,rfl,k1,j1,q _ _ (e1.trans e2) (G9 hi (den_tup j1 j2) (S.lst' (e1.trans e2)))⟩
 ·have vm:b2j x y=cz d:=by
   unfold a0P at h3
   split at h3
   ·exact absurd ⟨_,rfl,rfl⟩ c
   ·exact h3
  obtain⟨ds,es,rfl,rfl,gN,hl,rfl,hi⟩:=a7Z vm;obtain⟨pp,xs,rfl,k1,k2⟩:=(r1.den.up e2).tup_inv;obtain⟨qq,ys,rfl,j1,j2⟩:=r2.den.tup_inv;have xl:=k2.length;have yl:=j2.length;refine .inr ⟨pp,qq,xs,ys,rfl,rfl,k1,j1,λz=>gN (gq.mp (by rw[<-xl,z];rfl)),by rw[xl,yl,cJ];lia,λz=>?_,λ_ z hz=>?_⟩
  ·have:es=[]:=gq.mp (by rw[<-yl,z];rfl);subst this;rw[bM]at hi q;exact q _ _ (e1.trans e2) (G9 hi (den_tup k1 k2) (S.lst' (e1.trans e2)))
  ·exact q _ _ ((e1.trans e2).trans (j6 hz _)) (G9 hi (a0C (k2.append j2) hz) (S.lst' ((e1.trans e2).trans (j6 hz _))))
end
end VS
namespace VS
open PySem PySem.Spec
section
variable {prog:bA}{w:bX}{A:bL}{E:aj->aq->Prop}{sh:aq}{o:au}{rows:Array eY}{ep:Nat}
theorem a4I:∀(l:List α),(∀e∈l,∀Q':ForInStep PUnit->aq->Prop,Q' (.yield ⟨⟩) sh->aG (aT prog w) A (f e ⟨⟩) Q' E sh)->∀Q:PUnit->aq->Prop,Q ⟨⟩ sh->aG (aT prog w) A (forIn l lG f) Q E sh
 |[],_,Q,q=>by rw[ku];exact ah q
 |e::l,h,Q,q=>by
  rw[jJ];exact ab (h e av _ (a4I l (λx hx=>h x (aw _ hx)) Q q))
def a6Y{id:String}{u:gE}{Q:Array eY->aq->Prop}(hu:sh.heap.get? o=cz u)(pQ:u.data=.dict rows ep)(jU:∀e∈rows,∃b,e.key=.ref b/\sh.TypeIs (.ref b) "tuple")(hd:∀e∈rows,¬ (rows.filter (·.hash==e.hash)).size>1)(q:Q rows sh) :
  aG (aT prog w) A (vz id o) Q E sh:=by
 unfold vz;refine ab (cK hu pQ ?_);refine ab ?_;rw[<-nQ];refine a4I rows.toList (λe he Q' q'=>?_) _ (ah q);obtain⟨b,hb,hT⟩:=jU e (et.mp he);rw[hb];unfold Builtin.Dict.quietEq
 dsimp only
 refine ab (ab (eu hT F.slot_tuple_eq.lookup (ah ?_)));refine kA (λ_=>kA (λc=>absurd c (hd e (et.mp he))) λ_=>ah q') λ_=>ah q'
def b0J(tX:d≠o)(h0:(o==df)=xn)(hm:sh.heap.RawDict o rows ep)(Am:sh.heap.RawDict d #[] 0)(gN:rows.size≠0)(jU:∀e∈rows,∃b,e.key=.ref b/\sh.TypeIs (.ref b) "tuple")(hd:∀e∈rows,¬ (rows.filter (·.hash==e.hash)).size>1)(hz:rows.size<=aV)
  (q:∀h',h'.RawDict d rows 1->dH d sh.heap h'->Q () {sh with heap:=h'}):aG (aT prog w) A (jD nm d o) Q E sh:=by
 obtain⟨u,hu,Hx,pQ⟩:=id hm;obtain⟨v,hv,zy,yd⟩:=id Am;unfold jD;rw[aI (by simpa using tX)]
 dsimp only
 unfold jR;rw[aI (by rw[h0];exact bo)];refine ab (ah (ab (cK hu pQ ?_)));have Gi:(decide (rows.size<=8)&&rows.all λe=>(keyPart e.key).isSome)=xn:=by
  rw[Bool.and_eq_false_iff];refine .inr ?_;rw[Array.all_eq_false];obtain⟨b,hb,_⟩:=jU rows[0] (Array.getElem_mem _);exact⟨0,by lia,by rw[hb];simp[keyPart]⟩
 rw[Gi,aC (show (!false)=rp from rfl)];refine ab (cK hv yd ?_);rw[aC (show (#[]:Array eY).isEmpty=rp from rfl)];refine ab (a6Y hu pQ jU hd ?_);rw[aC (by simpa[Array.isEmpty]using gN)];refine ab (wpAny_updateDictKeysTo hv yd (ah (q _ ⟨_,c_ _ hv (iM (ik yd _)),zy.mapDictKeys _,ik yd _⟩ (eM ..))) (oR hz))
def a3q(h0:(o==df)=xn)(hm:sh.heap.RawDict o rows ep)(gN:rows.size≠0)(jU:∀e∈rows,∃b,e.key=.ref b/\sh.TypeIs (.ref b) "tuple")(hd:∀e∈rows,¬ (rows.filter (·.hash==e.hash)).size>1)(hz:rows.size<=aV)
  (q:∀h',h'.RawDict sh.heap.objs.size rows 1->(∀b u,sh.heap.get? b=cz u->h'.get? b=cz u)->Q (.ref sh.heap.objs.size) {sh with heap:=h'}):aG (aT prog w) A (call (.type "dict") [.ref o]) Q E sh:=by
 refine oH (Q₁:=λv s1=>v=.ref sh.heap.objs.size/\s1={sh with heap:=sh.heap.push {cls:=.type "dict",data:=.dict #[]}}) F.kt_called_dict (F.kt_typeCall_dict_1 _) F.entry_dict_init (kt_code_dict_new _ ⟨rfl,rfl⟩) ?_;rintro v s1 ⟨rfl,rfl⟩;have hn:(sh.heap.push {cls:=.type "dict",data:=.dict #[]}).RawDict sh.heap.objs.size #[] 0:=⟨_,aL _ rfl,⟨rfl,rfl,rfl⟩,rfl⟩;have ho:(sh.heap.push {cls:=.type "dict",data:=.dict #[]}).RawDict o rows ep:=hm.at λ_ e=>af _ e
 have xx:AU {sh with heap:=sh.heap.push {cls:=.type "dict",data:=.dict #[]}} (.ref sh.heap.objs.size) "dict":=Heap.RawDict.typeIs (sh:={sh with heap:=sh.heap.push {cls:=.type "dict",data:=.dict #[]}}) hn;have vh:AU {sh with heap:=sh.heap.push {cls:=.type "dict",data:=.dict #[]}} (.ref o) "dict":=Heap.RawDict.typeIs (sh:={sh with heap:=sh.heap.push {cls:=.type "dict",data:=.dict #[]}}) ho;have tX:sh.heap.objs.size≠o:=by
  obtain⟨_,hg,_⟩:=hm;exact λe=>absurd (aM hg) (by rw[e];exact dQ _)
 refine⟨xx,F.args_dict_init_2 _ _,?_⟩;unfold Builtin.«dict.__init__» mh;refine ab (ab (gf xx (show aG _ _ (pure (sh.heap.objs.size,[be o])) _ _ _ from ah ?_)));show aG _ _ (fG "dict.__init__" sh.heap.objs.size (be o) [] bb) _ _ _;unfold fG Builtin.Dict.merge yO;refine ab (jw vh ?_);rw[aI (by decide)];refine ab (ab (ab (ix vh isSubtype_dict_dict ?_)));simp only[fH,bF,dw];refine ab (eu vh tm.lookup (ah ?_));simp only[gY,jt];refine ab (ah ?_);refine b0J tX h0 ho hn gN (λe he=>let⟨b,hb,u,hu,hc⟩:=jU e he;⟨b,hb,u,af _ hu,hc⟩) hd hz λh' hr sb=>?_
 show aG _ _ (Ba sh.heap.objs.size [] >>= λ_=>_) _ _ _;exact ab (ah (ah ⟨rfl,q h' hr λb u e=>sb.extBut b u (bK (aM e)) (af _ e)⟩))
end
end VS
namespace VS
open PySem PySem.Spec L2
theorem a4J{f:α->Int}:∀{l:List α},(l.map f).Nodup->∀e∈l,(l.filter λx=>f x==f e).length<=1
 |a::l,h,e,he=>by
  rw[aA,bB]at h;have none_of:∀y,y∉l.map f->(l.filter λx=>f x==y)=[]:=λy hy=>lI.mpr λx hx c=>hy (bj.mpr ⟨x,hx,rJ.mp c⟩)
  rcases aF.mp he with z|z
  ·subst z;rw[GY,none_of _ h.1]
   split<;>simp
  ·rw[GY];have gN:(f a==f e)=xn:=hZ.mpr λc=>h.1 (by rw[c];exact bj.mpr ⟨e,z,rfl⟩)
   rw[gN];exact a4J h.2 e z
section
variable {X:Cx}
def a6Z:CallR X (.type "dict") (λxs H Q=>∃p es,xs=[V.ref p]/\H p=cz (c6 p es)/\es≠[]/\D9 es=rp/\(∀e∈es,∃b ys,e.2.1=.ref b/\SqT X.K H b ys)/\(es.map λe=>hashD e.1).Nodup/\∀z,H z=p4->Q (.ref z) (upd H z (c6 z es))):=by
 intro pins s Y H xs us Q I rv h;obtain⟨p,es,rfl,hH,gN,hL,hk,hn,q⟩:=h;obtain⟨u,rfl,rx⟩:=vals1 rv;cases (show u=be p from rx)
 obtain⟨h0,hl,kc,o,ents,ep,g1,g2,g3,g4⟩:=n9 I hH;have hsz:ents.size=es.length:=by rw[cS g4];exact aD.symm
 have mF:∀{es:List (D×V×V)} {l:List eY},fB M8 es l->∀x∈l,∃e∈es,M8 e x:=by
  intro es l h
  induction h with
  |nil=>intro x hx;cases hx
  |cons r _ ih=>
   intro x hx;rcases aF.mp hx with z|z
   ·subst z;exact⟨_,av,r⟩
   ·obtain⟨e,he,r'⟩:=ih x z;exact⟨e,aw _ he,r'⟩
 have xb:∀{es:List (D×V×V)} {l:List eY},fB M8 es l->l.map (·.hash)=es.map λe=>hashD e.1:=by
  intro es l h
  induction h with
  |nil=>rfl
  |cons r _ ih=>rw[aA,aA,ih,r.1]
 refine a3q (rows:=ents) h0 ⟨o,g1,g2,g3⟩ (by rw[hsz];exact λz=>gN (gq.mp z)) (λx hx=>?_) (λx hx=>?_) (by rw[hsz];exact hl) λh' hr Aa=>?_
 ·obtain⟨e,he,r⟩:=mF g4 x (et.mpr hx);obtain⟨b,ys,e1,e2⟩:=hk e he;have r2:=r.2.1;rw[e1]at r2;obtain⟨cQ,_,⟨ob,ho,hc,_⟩,_⟩:=I.tuple e2;exact⟨b,r2,ob,ho,hc⟩
 ·have z:=a4J (f:=λx:eY=>x.hash) (l:=ents.toList) (by rw[xb g4];exact hn) x (et.mpr hx);rw[<-Array.toList_filter,aD]at z;lia
 ·obtain⟨o',b1,b2,b3⟩:=hr;have sI:H s.heap.objs.size=p4:=I.hok.fresh (ay _);have Eu:(s.heap.objs.size==df)=xn:=hZ.mpr (dN (bK I.sysBelow));exact⟨.ref s.heap.objs.size,_,I.laid (a:=s.heap.objs.size) (o:=c6 s.heap.objs.size es) (t':=s.toks) Aa (ay _) (Y1 Eu hl kc b1 b2 b3 (λz=>by rw[hL]at z;cases z) g4),rfl,q _ sI⟩
end
def G5(kvs:List (D×D)):Bool:=keysOk rp kvs&&(!kvs.isEmpty&&(D8 (kvs.map (·.1))&&decide (kvs.map λp=>hashD p.1).Nodup))
noncomputable def a5R(a:EvE):EvE:=λU=>(a U).bind λd=>match d with
 |.dict kvs=>if G5 kvs then cz (.dict kvs) else p4
 |_=>p4
theorem a7a:∀l:List (α×β),(l.map (·.1)).zip (l.map (·.2))=l
 |[]=>rfl
 |x::l=>by rw[aA,aA,eN,a7a l]
section
variable {X:Cx}{M:List Md}{a:Expr}{fa:EvE}{ca:Cat}{pos p:fQ}
def b0K(hm:X.mg "dict"=p4)(ha:PX X M a fa ca)(hc:frozen ca:=by trivial)(hg:Gl X "dict":=by rfl)(he:ao [a] X.env=(xn,cG a X.env)::ao [] X.env:=by rfl)(gh:(cC pos (ao [] X.env)).any (·.1)=xn:=by rfl) :
  PX X M (.Call (.Name "dict" p) [a] [] pos) (a5R fa) (.new (.d rp .f)):=by
 obtain⟨ta,pa,qa⟩:=ha.out;refine .mk ⟨_,C1 a6Z hg hm PyProof.Rows.Boot.«dict» (k9 pa o7 he) (by decide) (by decide) he gh,λU Y H P F d Q S hf q=>?_⟩;obtain⟨x,h1,g1⟩:=bnd hf;cases x with
 |dict kvs=>
  by_cases c:G5 kvs=rp
  ·have g2:(if G5 kvs then cz (br.dict kvs) else p4)=cz d:=g1;rw[aC c]at g2;cases g2
   simp only[G5,ar,bW]at c;obtain⟨c1,c2,c3,c4⟩:=c;refine qa U Y H P F _ _ S h1 λv H1 e1 r1=>?_
   obtain⟨aa,es,rfl,k1,k2⟩:=(D5 hc r1).dict_inv;have kk:=k2.keys;have kd:=k2.kden;have ky:∀e∈es,keyOk rp e.1:=λe he=>by
    have:e.1∈kvs.map (·.1):=by rw[<-kk];exact bj.mpr ⟨e,he,rfl⟩
    obtain⟨pp,hp,e2⟩:=bj.mp this;rw[<-e2];exact u9 (bD.mp c1 pp hp)
   refine⟨aa,es,rfl,i4 _ _ k1,λz=>?_,by rw[D9,kk];exact c3,λe he=>?_,?_,λz hz=>?_⟩
   ·rw[z]at kk;cases kvs with
    |nil=>simp at c2
    |cons _ _=>cases kk
   ·obtain⟨ds,Al⟩:=(ky e he).2.2.1 rfl;have dd:=kd e he;rw[Al]at dd;obtain⟨b,xs,e2,e3,_⟩:=(dd.up i4).tup_inv;exact⟨b,xs,e2,e3⟩
   ·rw[show (es.map λe=>hashD e.1)=kvs.map λp=>hashD p.1 by
     have:=d_ (List.map hashD) kk
     rwa[bN,bN]at this]
    exact c4
   ·have hs:Same (cut H1 F) (cut (upd H1 z (c6 z es)) ([z]++F)):=λb y hy=>by
     obtain⟨n1,n2⟩:=p5 hy;have hb:b≠z:=λw=>by rw[w,hz]at n2;cases n2
     refine j5 (λw=>?_) (by rw[f7 hb];exact n2);rcases az.mp w with w|w
     ·exact hb (ak.mp w)
     ·exact n1 w
    refine q _ _ (e1.trans (j6 hz _)) ⟨[z],?_,bB.mpr ⟨λw=>(nomatch w),bJ⟩,λb hb=>?_⟩
    ·simp only[Own];refine⟨z,es,kvs.map (·.2),[],rfl,g9,by rw[kk,a7a],rfl,⟨?_,λe he=>⟨ky e he,(kd e he).up hs⟩⟩,ListAll.of_den (k2.vals.up hs) λv d _ q=>⟨rfl,q⟩⟩;rw[kk];have c5:=c4;rw[List.Nodup,oU]at c5 ⊢;exact c5.imp λh e=>h (by rw[e])
    ·rw[ak.mp hb];cases hH:H z with
     |none=>rfl
     |some y=>rw[e1 _ _ hH]at hz;cases hz
  ·have g2:(if G5 kvs then cz (br.dict kvs) else p4)=cz d:=g1;rw[aI c]at g2;cases g2
 |_=>cases g1
end
section
variable {X:Cx}{M:List Md}{e:Expr}{f:EvE}{u:Ty}{kt:Bool}
def a9i(h:PX X M e f (.new (.d kt u))):PX X M e f (.new (.d kt .f)):=h.imp λK H H' F v d hF _ ⟨fp,o,n,z⟩=>by
 simp only[Own]at o;obtain⟨a,es,ds,fs,rfl,ha,rfl,rfl,⟨k1,k2⟩,la⟩:=o;have jT:∀b∈[a]++F,b∈(a::fs)++F:=λb hb=>by
  rcases az.mp hb with y|y
  ·rw[ak.mp y];simp
  ·exact ax _ y
 have uM:∀b∈fs,b∉[a]++F:=λb hb y=>by
  rcases az.mp y with y|y
  ·rw[ak.mp y]at hb;exact (bB.mp n).1 hb
  ·obtain⟨ys,q⟩:=hF b y;rw[z b (aw _ hb)]at q;cases q
 have key:∀{ds:List D} {xs:List V} {gs:List au},ListAll (Own K H' ((a::fs)++F) u) xs ds gs->(∀b∈gs,b∈fs)->ListAll (Own K H' ([a]++F) .f) xs ds []:=by
  intro ds
  induction ds with
  |nil=>intro xs gs l _;obtain⟨rfl,rfl⟩:=l.nil_inv;exact l7
  |cons d ds ih=>
   intro xs gs l hs;obtain⟨v,r,f,g,rfl,rfl,l1,l2⟩:=l.cons_inv;exact l0 (f:=[]) (g:=[]) (l1.freeze jT λb hb=>uM b (hs b (aO _ hb))) (ih l2 λb hb=>hs b (ax _ hb))
 exact⟨[a],by simp only[Own];exact⟨a,es,ds,[],rfl,ha,rfl,rfl,⟨k1,λe he=>⟨(k2 e he).1,(k2 e he).2.up (F9 jT)⟩⟩,key la λ_ y=>y⟩,by simp,λb hb=>z b (by rw[ak.mp hb];exact av)⟩
end
section
variable {X:Cx}{M ML M':List Md}{e:Expr}{f:EvE}{pos:fQ}
def b5l(hM:M.map frz=M)(he:PX X M e f .tmp):PSX X .f ML M (.Return (cz e) pos) (p6 f) M':=by
 obtain⟨te,pe,qe⟩:=he.out;refine .mk ⟨_,b1i pe,λD U Y H P F o S hg k=>?_⟩;obtain⟨d,h1,g1⟩:=bnd hg;cases g1
 have S0:=S.free hM;refine qe U Y H P [] d _ S0.toE h1 λv H1 e1 hd=>?_
 refine k v H1 [] (by simp only[Own];exact⟨trivial,(show Den X.K H1 v d from hd).up λa x ha=>j5 (by simp) ha⟩) bJ (λa ha=>(nomatch ha)) ((S0.prot.trans i4).trans e1)
end
section
variable {X:Cx}{M:List Md}{e0:Expr}{es:List Expr}{f:EvA}{uf:Ty}{x:bI}{p pos kM:fQ}{params:mQ}{body:Expr}{scope:gJ}{ys:List bI}{js:List Nat}
def a7b{ps pl N:List bI}{us:List Ty} 
  (W:Has X.prog X.w X.K X.mg X.base x k ps (spL X.K n (λgm=>FnV X.prog X.w X.K X.mg X.base (kf+1) pl.length uf gm) m .f)) (hr:Room k X.A) (h:PAL X M (e0::es) f λH v=>∃fa,v=.ref fa/\LamO q params body scope (P8 scope X.env) H fa)
  (vc:a9g X (P8 scope X.env) ys js) (hM:b8i M js) (S:LamScope N pl ys scope (P8 scope X.env)) (om:us.length=pl.length)
  (oE:∀(pm:aj) (c:au) (m_:aj) (us:List aj),us.length=pl.length->rH (PySem.W.kla_fn "<lambda>" q params body scope (P8 scope X.env) pm (.ref c) m_) ⟨us,[]⟩=pure (pl.zip us))
  (hb:∀(fa c:au) (A:bL) (outer:List pZ) (s:aq) (H:Hp),Room kf (A.deeper (jX q scope s.heap.objs.size fa (.ref c) (P8 scope X.env)))->PX (a9f X.prog X.w X.K X.mg X.base N q scope fa (.ref c) (P8 scope X.env) A outer s H) (us.map .own++aS ys.length (.own .f)) body fb (.new uf))
  (hfl:∀U ds,f U=cz ds->ds.length=n) (pF:∀x,X.fn x=rp:=by exact λ_=>rfl)
  (hg:Gl X x:=by rfl) (lX:(x==("__debug__":bI))=xn:=by decide) (he:ao (e0::es) X.env=(xn,cG e0 X.env)::ao es X.env:=by rfl) (gh:(cC pos (ao es X.env)).any (·.1)=xn:=by rfl) :
  PX X M (.Call (.Name x p) (e0::es) [] pos) (b5h m us js fb f) .tmp:=by
 obtain⟨t,pa,qa⟩:=h;obtain⟨HW,fd,F,b,kp,DV⟩:=W.ex;refine .mk ⟨_,b2N F hr hg DV kp b pa vc (b5f pF) lX he gh,λU Y H P F d Q S' hf q=>?_⟩;obtain⟨ds,h1,hf⟩:=bnd hf;refine qa U Y H P F ds _ S' h1 λvs v H1 e1 r1 ⟨fa,hv,L⟩=>?_
 subst hv;obtain⟨mv,c1,c2⟩:=a9h (S'.grow e1) hM;refine⟨mv,c1,λH2 C uW s2 ci GI J2 o2 n2=>?_⟩;refine⟨vs,.ref fa,_,ds,d,rfl,by rw[r1.length];exact hfl U ds h1,r1.up s2,λH' e'=>b5d (L.up (s2.trans e')) S uW (ci.up e') (λy c z=>let⟨ob,uo,w1,w2⟩:=GI y c z;⟨ob,uo,e' _ _ w1,w2⟩) (c2.up (s2.trans e')) om oE (hb fa),hf,λv H' fp e o nd fr J'=>?_⟩;have sm:Same H1 (VS.cut H' C):=λb o' hb=>j5 (λz=>by rw[n2 b z]at hb;cases hb) (e _ _ (s2 _ _ hb))
 exact q v (VS.cut H' C) (e1.trans sm) ((o.junk J' .f).den .f)
end
def Iti(a:au)(es:List (D×V×V)):It:=
 ⟨λi H=>H a=cz (c6 a es)/\i<es.length,λi H x H'=>∃T e,H T=p4/\H'=upd H T (.tup [e.2.1,e.2.2])/\x=.ref T/\es[i]?=cz e,λi H=>H a=cz (c6 a es)/\es.length<=i⟩
def a3r(hk:z8 es):D9 es=xn:=by
 cases es with
 |nil=>rfl
 |cons e es=>
  obtain⟨n,e1,_⟩:=hk e av;show D8 (e.1::es.map (·.1))=xn;rw[e1];rfl
def F5(I:Inv X pins Y H s)(hH:H d=cz (c6 d es))(hk:z8 es) :
  ∃kvs,s.heap.DictAt (eU X.prog X.w) d kvs es.length/\(d==df)=xn/\fB EKv es kvs/\kvs.length=es.length:=by
 obtain⟨kvs,ep,kC,h0,_,hp⟩:=a0k I hH hk;have he:ep=es.length:=by
  obtain⟨o,ents,g1,g2,g3,_⟩:=id kC;exact a2X I hH g1 g3 (a3r hk)
 subst he;exact⟨kvs,kC,h0,hp,(cS hp).symm⟩
def a8n(a it:au)(es:List (D×V×V))(hk:z8 es):Turn P w K (.Tuple elts kk iP) (Iti a es) [it] it (λi h=>∃ok ov,IsItemIter h it a i es.length es.length ok ov) where
 mem:=by simp
 obj:=λi h st b hb=>by
  obtain⟨ok,ov,he⟩:=st;cases ak.mp hb
  exact⟨_,he,λv z=>by cases z⟩
 keep:=λi h h' st k=>by
  obtain⟨ok,ov,he⟩:=st;exact⟨ok,ov,k it (by simp) _ he⟩
 item:=by
  intro X hP hw hK hc i pins s Y H E I hf st hg;subst hP hw hK;obtain⟨hH,hi⟩:=hg;obtain⟨kvs,kC,h0,hp,hlen⟩:=F5 I hH hk;obtain⟨ok,ov,he⟩:=st;have hx:es[i]?=cz es[i]:=ai hi;obtain⟨⟨n,v⟩,z_,g⟩:=C0 hp hx;rw[<-hlen]at he kC;refine wpAny_pyNext_items_item (knd:=eU X.prog X.w) he kC z_ λkey h' jU uV uG hsz keep=>⟨.ref s.heap.objs.size,rfl,wpAny_letOwnedTupleGo_items (s:={s with heap:=h'}) uV λh2 nK Bm=>?_⟩
  have hn:H s.heap.objs.size=p4:=I.hok.fresh (ay _);have Cu:s.heap.objs.size≠it:=fD (aM he);obtain⟨t,rfl⟩:=aj.isInt_shape jU;have new:ObjOk X.prog X.w (upd H s.heap.objs.size (.tup [es[i].2.1,es[i].2.2])) h2 s.heap.objs.size (.tup [es[i].2.1,es[i].2.2]):=
   ⟨by rw[cJ];show 2<=_;decide,[.int n t,v],.cons (by rw[g.2.1];exact⟨t,rfl⟩) (.cons g.2.2 .nil),_,Bm.extBut _ _ Cu uG,rfl,_,rfl⟩
  refine⟨.ref s.heap.objs.size,upd H s.heap.objs.size (.tup [es[i].2.1,es[i].2.2]),a8Y (s:=s) (t':=s.toks) (ch:=[it]) I (λb o hb q=>Bm.extBut b o (by simpa using hb) (keep b o (by simpa using hb) q)) hf (ay _) new,rfl,⟨_,es[i],hn,rfl,rfl,hx⟩,⟨_,_,by rw[hlen]at nK;exact nK⟩,λb hb=>?_⟩;rw[f7 (λz=>Cu (by rw[<-z];exact ak.mp hb))];exact (hf b hb).1
 done:=by
  intro X hP hw hK hc i pins s Y H E I hf st hg;subst hP hw hK;obtain⟨hH,hi⟩:=hg;obtain⟨kvs,kC,h0,hp,hlen⟩:=F5 I hH hk;obtain⟨ok,ov,he⟩:=st;rw[<-hlen]at he kC;exact wpAny_pyNext_items_end (knd:=eU X.prog X.w) (I.ok.hd hc) he kC (gG (by lia)) λh' hx=>⟨rfl,a2x (t':=s.toks) (ch:=[it]) I (λb o hb y=>hx b o (by simpa using hb) y) hf⟩
 self:=λ_ _ _ _ _ st h=>by
  obtain⟨ok,ov,he⟩:=st;exact PySem.W.kcp_self he h
section
variable {X:Cx}{M ML:List Md}{o iter:Expr}{elts:List Expr}{kk:Nat}{iP apos cM pos:fQ}{fa:EvE}{ca:Cat}{u:Ty}{body:List iz}{g:EvS}
def c1o(to:TE):TI:=λY H R=>to Y H λx H1=>∃p es,x=.ref p/\H1 p=cz (c6 p es)/\z8 es/\R (Iti p es) H1
def b2Q(ho:PE X o to)(fx:dC o "items" X.env (cG o X.env)=cG o X.env:=by rfl)(fw:(apos.endLine==cM.line)=rp:=by rfl):PI X (.Tuple elts kk iP) (.Call (.Attribute o "items" apos) [] [] cM) (c1o to):=by
 intro pins s Y H R I h;refine je fx fw (L2.thn (ho pins s Y H _ I h) λv s1 ⟨x,H1,I1,r1,p,es,ex,hH,hk,q1⟩=>?_);subst ex;obtain rfl:v=be p:=r1;obtain⟨kvs,kC,h0,hp,hlen⟩:=F5 I1 hH hk;refine⟨"dict","dict.items",iK,uj,PySem.F.type_dict_items,j7 I1 hH,L3 I1 hH,fR rfl (jO ?_)⟩;refine GJ uj (j7 I1 hH) PySem.F.entry_dict_items (PySem.F.args_dict_items_1 _) (meets_dict_items (eU X.prog X.w) p h0) ⟨⟨kvs,kC.dictOf⟩,?_⟩;refine wpAny_pyIter_items (knd:=eU X.prog X.w) ⟨_,aL _ rfl,rfl,rfl⟩ (kC.at λ_ e=>af _ e) ?_;have hz:(s1.heap.push {cls:=.type "dict_items",data:=.fields #[.ref p]}).objs.size=s1.heap.objs.size+1:=ip ..;refine⟨_,[_],_,_,H1,rfl,I1.kept (t':=s1.toks) λb o e=>af _ (af _ e),a8n p _ es hk,⟨.none,.none,by rw[<-hlen];exact aL _ rfl⟩,λb hb=>?_,q1⟩;have e:=ak.mp hb;have nU:s1.heap.objs.size<=b:=by rw[e,hz];exact jB _
 exact I1.fpOk nU (I1.hok.fresh nU)
end
def a3s(p:D×D):D:=.tuple [p.1,p.2]
noncomputable def iIt(a:EvE):EvA:=λU=>(a U).bind λd=>match d with
 |.dict kvs=>if keysOk xn kvs then cz (kvs.map a3s) else p4
 |_=>p4
def a2c:∀{kvs:List (D×D)} {es:List (D×V×V)},DenKV K H es kvs->keysOk xn kvs=rp->z8 es:=λ{kvs es} h hk e he=>by
 have hd:=h.kden e he;have hm:e.1∈kvs.map (·.1):=by rw[<-h.keys];exact bO he
 obtain⟨p,hp,zO⟩:=bj.mp hm;have h2:m9 xn p.1=rp:=bD.mp hk p hp;rw[zO]at h2;cases hx:e.1 with
 |int n=>rw[hx]at hd;exact⟨n,rfl,by simpa only [Den]using hd⟩
 |_=>rw[hx]at h2;simp[m9]at h2
section
variable {X:Cx}{M ML:List Md}{o iter:Expr}{elts:List Expr}{kk:Nat}{iP apos cM pos:fQ}{fa:EvE}{ca:Cat}{u:Ty}{body:List iz}{g:EvS}
noncomputable def b9X(X:Cx)(M:List Md)(tg iter:Expr)(f:EvE):Prop:=
 ∃wi,PI X tg iter wi/\∀(U:List D) (Y:L2.St) (H P:Hp) (F:List au) (kvs:List (D×D)) (R:It->Hp->Prop),StE X.K M U Y H P F->f U=cz (.dict kvs)->keysOk xn kvs=rp->
  (∀a es H1,Same H H1->(∀H2,Same (cut H1 F) H2->H2 a=cz (c6 a es))->DenKV X.K (cut H1 F) es kvs->R (Iti a es) H1)->wi Y H R
def c1p(h:PX X M o fa ca)(hc:frozen ca:=by trivial)(fx:dC o "items" X.env (cG o X.env)=cG o X.env:=by rfl)(fw:(apos.endLine==cM.line)=rp:=by rfl):b9X X M (.Tuple elts kk iP) (.Call (.Attribute o "items" apos) [] [] cM) fa:=by
 obtain⟨t,p,q⟩:=h.out;refine⟨_,b2Q p fx fw,λU Y H P F kvs R S hf hk k=>?_⟩;refine q U Y H P F _ _ S hf λv H1 e1 r1=>?_
 obtain⟨aa,es,rfl,k1,k2⟩:=(D5 hc r1).dict_inv;exact⟨aa,es,rfl,i4 _ _ k1,a2c k2 hk,k _ es H1 e1 (λH2 e2=>e2 _ _ k1) k2⟩
def b0L{K:ae}{H:Hp}{kvs:List (D×D)}{es:List (D×V×V)}(h:DenKV K H es kvs){i:Nat}{e:D×V×V}(he:es[i]?=cz e):∃p,kvs[i]?=cz p/\Den K H e.2.1 p.1/\Den K H e.2.2 p.2:=by
 have h1:=h.kden e (bz he);have h2:(es.map (·.1))[i]?=cz e.1:=by rw[aZ,he];rfl
 rw[h.keys,aZ]at h2;obtain⟨p,hp,zO⟩:=eA.mp h2;obtain⟨d,hd,sL⟩:=h.vals.getV (show (es.map (·.2.2))[i]?=cz e.2.2 by rw[aZ,he];rfl);rw[aZ,hp]at hd;cases hd
 exact⟨p,hp,by rw[zO];exact h1,sL⟩
def b2R{fi:EvA}{tg:Expr}{MB:List Md}{gt:TG}{set:List D->D->Option (List D)}{m:D->Prop}(hc:X.calm=rp)(hp:kZ (aT X.prog X.w) X.A X.env X.xe)(hi:b9X X M tg iter fa)(hg:PG X tg gt)(hs:b1W X.K M MB gt set m)(hm:∀U ds,fi U=cz ds->∀d∈ds,m d)(xf:∀{U ps},fi U=cz ps->iIt fa U=cz ps)(hb:PSsX X u M MB body g M)
  (hf:∀x,dF iter X.env x=pure x:=by intro _;rfl):PSX X u ML M (.For tg iter body [] pos) (F8 fi set g) M:=by
 obtain⟨wi,pi,qi⟩:=hi;obtain⟨tb,pb,qb⟩:=hb.out;refine .mk ⟨_,a2J hp hc pi hg pb hf,λD U Y H P F o S uY k=>?_⟩;obtain⟨ps,h1,g1⟩:=bnd uY;obtain⟨d0,h2,g2⟩:=bnd (xf h1);obtain⟨kvs,rfl⟩:∃kvs,d0=.dict kvs:=by
  cases d0 with
  |dict kvs=>exact⟨kvs,rfl⟩
  |_=>cases g2
 have g3:(if keysOk xn kvs=rp then cz (kvs.map a3s) else p4)=cz ps:=g2;have hk:keysOk xn kvs=rp:=by
  by_cases c:keysOk xn kvs=rp
  ·exact c
  ·rw[aI c]at g3;cases g3
 rw[aC hk]at g3;have wN:kvs.map a3s=ps:=aK g3;refine qi U Y H P F kvs _ S.toE h2 hk λa es H1 e1 uL hx=>?_
 have S1:=S.grow e1;have qK:es.length=kvs.length:=by have:=d_ gA hx.keys;simpa using this
 have gh:ps.length=es.length:=by rw[<-wN,ag,qK]
 refine⟨λi n Y' H'=>n=es.length-i/\i<=es.length/\∃U' F',StR X.K M U' Y' H' (cut H1 F) F'/\Q5 set g (ps.drop i) U'=cz o,⟨es.length,by simp,cj _,U,F,⟨S1.all,S1.lst,Same.refl _⟩,g1⟩,?_⟩;rintro i n Y' H' ⟨rfl,hi,U',F',S',hfl⟩;have lN:Same (cut H1 F) (cut H' F'):=S'.prot;have q:=uL H' (lN.trans i4);by_cases gX:i<es.length
 ·refine .inr ⟨⟨q,gX⟩,λY2 H2=>∃U2 F2,StR X.K M U2 Y2 H2 (cut H1 F) F2/\Q5 set g (ps.drop (i+1)) U2=cz o,λY2 H2 ⟨U2,F2,S2,h2⟩=>⟨es.length-(i+1),by lia,rfl,gX,U2,F2,S2,h2⟩,λx H2 hy=>?_⟩;obtain⟨T,e,hT,rfl,rfl,he⟩:=hy;have mX:i<ps.length:=by lia
  have mH:ps.drop i=ps[i]::ps.drop (i+1):=cB mX;rw[mH]at hfl;obtain⟨U1,uK,g4⟩:=bnd (show (set U' ps[i]).bind _=cz o from hfl);obtain⟨o1,hg1,g5⟩:=bnd g4;obtain⟨pr,zN,dk,dv⟩:=b0L (DenKV.mono lN _ hx) he;have qu:ps[i]=a3s pr:=by
   have:ps[i]?=cz (a3s pr):=by rw[<-wN,aZ,zN];rfl
   rw[ai mX]at this;exact aK this
  have oF:Same H' (upd H' T (.tup [e.2.1,e.2.2])):=j6 hT _;have S2:=S'.grow oF;have Az:T∉F':=λz=>by
   obtain⟨ys,e⟩:=S'.lst T z;rw[hT]at e;cases e
  have rq:Den X.K (cut (upd H' T (.tup [e.2.1,e.2.2])) F') (.ref T) (a3s pr):=by
   have nT:Same (cut H' F') (cut (upd H' T (.tup [e.2.1,e.2.2])) F'):=B7 oF;have kC:cut (upd H' T (.tup [e.2.1,e.2.2])) F' T=cz (.tup [e.2.1,e.2.2]):=j5 Az g9;exact den_tup (SqT.of kC) (denAll_cons (dk.up nT) (denAll_cons (dv.up nT) denAll_nil))
  rw[qu]at uK;refine hs U' Y' _ (cut H1 F) F' (.ref T) _ U1 _ S2 rq (hm U ps h1 _ (by rw[<-qu];exact dt mX)) uK λY3 F3 S3=>qb _ U1 Y3 _ (cut H1 F) F3 o1 S3 hg1 ?_
  cases o1 with
  |nx U2=>exact λY4 H4 F4 S4=>⟨U2,F4,S4,g5⟩
  |ct U2=>exact λY4 H4 F4 S4=>⟨U2,F4,S4,g5⟩
  |bk U2=>
   have:o=.nx U2:=(aK g5).symm;subst this;exact λY4 H4 F4 S4=>k Y4 H4 F4 ⟨S4.all,S4.lst,S1.prot.trans S4.prot⟩
  |rt d=>
   have:o=.rt d:=(aK g5).symm;subst this;refine λv H4 fp o nd fr e=>k v H4 fp o nd (λa ha=>?_) (S1.prot.trans e)
   exact S1.prot.free (fr a ha)
 ·have e:i=es.length:=by lia
  subst e;rw[<-gh,jr]at hfl;have:o=.nx U':=(aK hfl).symm;subst this;exact .inl ⟨⟨q,ay _⟩,k Y' H' F' ⟨S'.all,S'.lst,S1.prot.trans S'.prot⟩⟩
end
end VS
namespace PySem
open Sem (wp)
section
variable {prog:bA}{w:bX}{A:bL}{E:aj->aq->Prop}{s:aq}
def a2d(h:Q (s.heap.get? a) s):aG M A (loadIfAlive a) Q E s:=λ_ _ _=>h
def b2S:¬ (be t==bb)=rp:=bo
def a8o(hit:s.heap.IsTupleIter it t i)(ht:s.heap.IsTuple t vs)(hx:vs[i]?=cz x)
  (q:∀h',h'.IsTupleIter it t (i+1)->dH it s.heap h'->Q x {s with heap:=h'}):aG (aT prog w) A (cE (.ref it)) Q E s:=by
 obtain⟨o,ho,hc,hd⟩:=id hit;obtain⟨u,hu,_,n,pQ⟩:=ht;unfold cE;refine ab (cN (name:=dq "__next__") hit.typeIs iq (cD iq hit.typeIs vR ?_ (vx _)));show aG _ _ (pU (.ref it) 0 >>= _) _ _ s;refine ab (cZ ho hd (x:=.ref t) rfl ?_);show aG _ _ (ite ((be t==bb)=rp) _ _) _ _ s;rw[aI b2S];show aG _ _ (pU (.ref it) 1 >>= _) _ _ s;refine ab (cZ ho hd (x:=.int i 0) rfl ?_);show aG _ _ (seqItems? (.ref t) >>= _) _ _ s;refine ab (dZ hu pQ ?_);simp only[bQ,hx];refine ab (nY ho hd (by simp) (ah ⟨x,rfl,ah (q _ ?_ (eM ..))⟩));exact⟨_,c_ _ ho (Il (ll hd _)),(gE.cls_mapFields ..).trans hc,by rw[ll hd];simp[fW]⟩
def b0M(hh:A.handled=p4)(hit:s.heap.IsTupleIter it t i)(ht:s.heap.IsTuple t vs)(hx:vs[i]?=p4)
  (q:∀h' e,cf.ExtBut it s.heap h'->(∃o,h'.get? e=cz o/\o.cls=.type "StopIteration")->E (.ref e) {s with heap:=h'}):aG (aT prog w) A (cE (.ref it)) Q E s:=by
 obtain⟨o,ho,hc,hd⟩:=id hit;obtain⟨u,hu,_,n,pQ⟩:=ht;unfold cE;refine ab (cN (name:=dq "__next__") hit.typeIs iq (cD iq hit.typeIs vR ?_ (vx _)));show aG _ _ (pU (.ref it) 0 >>= _) _ _ s;refine ab (cZ ho hd (x:=.ref t) rfl ?_);show aG _ _ (ite ((be t==bb)=rp) _ _) _ _ s;rw[aI b2S];show aG _ _ (pU (.ref it) 1 >>= _) _ _ s;refine ab (cZ ho hd (x:=.int i 0) rfl ?_);show aG _ _ (seqItems? (.ref t) >>= _) _ _ s;refine ab (dZ hu pQ ?_);simp only[bQ,hx];refine ab (gw (ab (nY ho hd (by simp) ?_)));show aG _ _ (newExc (.type "StopIteration") [] >>= _) _ _ _;simp only[newExc,newTuple];refine ab (ab (eL ?_ (by size_fits)));refine ab (m:=oG _ _) (wpAny_of_eq (a:=bb) (by first|rfl|(simp only[oG];rfl)) ?_);refine eL ?_ (by size_fits);simp only[raiseNew];refine ab (wpAny_handled ?_)
 first|rw[show A.in1.handled=p4 from hh]|rw[hh]
 exact ab (ah (wpAny_throw (q _ _ (((eM ..).extBut.push _).push _) ⟨_,aL _ rfl,rfl⟩)))
end
def Draws.tup{prog:bA}{w:bX}{A:bL}(hh:A.handled=p4)(it t:au)(gN:t≠it)(vs:Array aj):Draws prog w A it [it,t] vs.size (λi v=>vs[i]?=cz v) (λi h=>h.IsTupleIter it t i/\h.IsTuple t vs) where
 live:=λ_ _ st=>let⟨o,ho,_⟩:=st.1;⟨o,ho⟩
 frame:=λ_ _ _ st hk=>⟨let⟨o,ho,r⟩:=st.1;⟨o,hk it (by simp) o ho,r⟩,let⟨o,ho,r⟩:=st.2;⟨o,hk t (by simp) o ho,r⟩⟩
 item:=λi s Q E hi st hQ=>a8o st.1 st.2 (x:=vs[i]) (by simp[hi]) λh' uV iU=>hQ _ h' s.toks (by simp[hi]) ⟨uV,st.2.extBut iU.extBut gN⟩ iU
 done:=λs Q E st hE=>b0M hh st.1 st.2 (by simp) hE
def a3t(h:cf)(z TI TO i1 i2:au):Prop:=
 j_ h TI (.ref i1) (.ref i2)/\(∃a b,j_ h TO a b)/\(oW h z TI TO .none\/∃(T:au) (f1:aj) (o:gE),T≠z/\T≠TO/\T≠i1/\T≠i2/\h.get? T=cz o/\h.get? z=cz {cls:=.type "zip",dict:=p4,data:=.fields #[fW T,f1,.bool xn,.ref TI,.ref TO],slots:=#[]})
structure ZApart (z TI TO i1 i2:au) (fp1 fp2:List au):Prop where
 TIz:TI≠z
 TOz:TO≠z
 TITO:TI≠TO
 i12:i1≠i2
 TI1:TI≠i1
 TI2:TI≠i2
 TO1:TO≠i1
 TO2:TO≠i2
 z1:z≠i1
 z2:z≠i2
 zf1:z∉fp1
 zf2:z∉fp2
 Of1:TO∉fp1
 Of2:TO∉fp2
 if2:i1∉fp2
 if1:i2∉fp1
section
variable {prog:bA}{w:bX}{A:bL}{E:aj->aq->Prop}{s:aq}{z TI TO i1 i2:au}{fp1 fp2:List au}{n i:Nat}{P1 P2:Nat->aj->Prop}{St1 St2:Nat->cf->Prop}
def b0N{Q:aj->aq->Prop}(D1:Draws prog w A i1 fp1 n P1 St1)(D2:Draws prog w A i2 fp2 n P2 St2)(Z:ZApart z TI TO i1 i2 fp1 fp2)(hz:a3t s.heap z TI TO i1 i2)(hi:i<n)(s1:St1 i s.heap)(s2:St2 i s.heap)
  (q:∀T x y h' tk,P1 i x->P2 i y->s.heap.objs.size<=T->j_ h' T x y->a3t h' z TI TO i1 i2->St1 (i+1) h'->St2 (i+1) h'->(∀c o,c≠z->c≠TO->c≠i1->c≠i2->s.heap.get? c=cz o->h'.get? c=cz o)->Q (.ref T) {s with heap:=h',toks:=tk}) :
  aG (aT prog w) A (Builtin.«zip.__next__» ⟨[.ref z],[]⟩) (λfin s'=>∃v,fin=.done (.ret v)/\Q v s') E s:=by
 have vn:∀{h h':cf} {j:Nat},St1 j h->(∀b o,b≠z->b≠TO->b≠i2->h.get? b=cz o->h'.get? b=cz o)->St1 j h':=λst k=>D1.frame _ _ _ st λb hb o e=>k b o (λx=>Z.zf1 (x▸hb)) (λx=>Z.Of1 (x▸hb)) (λx=>Z.if1 (x▸hb)) e
 have ue:∀{h h':cf} {j:Nat},St2 j h->(∀b o,b≠z->b≠TO->b≠i1->h.get? b=cz o->h'.get? b=cz o)->St2 j h':=λst k=>D2.frame _ _ _ st λb hb o e=>k b o (λx=>Z.zf2 (x▸hb)) (λx=>Z.Of2 (x▸hb)) (λx=>Z.if2 (x▸hb)) e
 obtain⟨rC,⟨a,b,xy⟩,hz⟩:=hz;rcases hz with hz|⟨T0,f1,o0,t1,t2,t3,t4,yw,hz⟩
 ·show aG _ _ (pU (.ref z) 2 >>= _) _ _ _;refine ab (cZ hz rfl (x:=.bool xn) rfl ?_);show aG _ _ (pU (.ref z) 3 >>= _) _ _ _;refine ab (cZ hz rfl (x:=.ref TI) rfl (ab (dZ rC rfl ?_)));show aG _ _ (cm (.ref z) >>= _) _ _ _;unfold cm;refine ab (ab (cZ hz rfl (x:=.none) rfl (ah ?_)));simp only[jt];refine ab (gw (ab (cZ hz rfl (x:=.ref TO) rfl ?_)));refine ab (fU hz (by simp) λh₁ kh e₁=>ab ?_)
  replace kh:oW h₁ z TI TO .ellipsis:=kh
  simp only[pL,Im,jJ,ku];refine ab (ab (yT ?_));show aG _ _ (cE (.ref i1) >>= _) _ _ _;refine ab (D1.item i _ _ _ hi (vn s1 λb o b1 _ _ e=>e₁.extBut _ _ b1 e) λx h₂ k₂ px g1 e₂=>ah ?_)
  replace e₂:dH i1 h₁ h₂:=e₂
  have rB:j_ h₂ TO a b:=e₂.extBut _ _ Z.TO1 (e₁.extBut _ _ Z.TOz xy);refine ab (dZ rB rfl (ab (wpAny_updateSeq_pair rB λh₃ pI e₃=>ab (nZ (ah ?_)))))
  replace e₃:dH TO h₂ h₃:=e₃
  replace pI:j_ h₃ TO x b:=pI
  have mx:∀c o,c≠z->c≠TO->c≠i1->s.heap.get? c=cz o->h₃.get? c=cz o:=λc o c1 c2 c3 e=>e₃.extBut _ _ c2 (e₂.extBut _ _ c3 (e₁.extBut _ _ c1 e))
  refine ab (ab (yT ?_));show aG _ _ (cE (.ref i2) >>= _) _ _ _;refine ab (D2.item i _ _ _ hi (ue s2 λb o b1 b2 b3 e=>mx b o b1 b2 b3 e) λy h₄ k₄ py g2 e₄=>ah ?_)
  replace e₄:dH i2 h₃ h₄:=e₄
  have rA:j_ h₄ TO x b:=e₄.extBut _ _ Z.TO2 pI;refine ab (dZ rA rfl (ab (wpAny_updateSeq_pair rA λh₅ mJ e₅=>ab (nZ (ah (ah ?_))))))
  replace e₅:dH TO h₄ h₅:=e₅
  replace mJ:j_ h₅ TO x y:=mJ
  refine ab (dZ mJ rfl (ab (vW ?_)));have sz:h₅.objs.size=s.heap.objs.size:=by rw[e₅.1,e₄.1,e₃.1,e₂.1,e₁.1]
  have tJ:oW h₅ z TI TO .ellipsis:=e₅.extBut _ _ Z.TOz.symm (e₄.extBut _ _ Z.z2 (e₃.extBut _ _ Z.TOz.symm (e₂.extBut _ _ Z.z1 kh)));have tD:∀c o,c≠z->c≠TO->c≠i1->c≠i2->s.heap.get? c=cz o->h₅.get? c=cz o:=λc o c1 c2 c3 c4 e=>e₅.extBut _ _ c2 (e₄.extBut _ _ c4 (mx c o c1 c2 c3 e))
  show aG _ _ (pM (.ref z) (.ref h₅.objs.size) >>= _) _ _ _;unfold pM;have wC:oW (h₅.push {cls:=.type "tuple",data:=.seq #[x,y]}) z TI TO .ellipsis:=af _ tJ;refine ab (ab (fU wC (by simp) λh₇ qX e₇=>?_))
  replace qX:oW h₇ z TI TO (fW h₅.objs.size):=qX
  refine fU qX (by simp) λh₈ qW e₈=>ah ⟨_,rfl,?_⟩
  replace qW:oW h₈ z TI TO (fW h₅.objs.size):=qW
  have n_:∀c o,c≠z->h₅.get? c=cz o->h₈.get? c=cz o:=λc o c1 e=>e₈.extBut _ _ c1 (e₇.extBut _ _ c1 (af _ e))
  have yR:z<h₅.objs.size:=aM tJ;have DY:i1<h₅.objs.size:=by
   obtain⟨o,ho⟩:=D1.live _ _ g1;rw[e₅.1,e₄.1,e₃.1];exact aM ho
  have DX:i2<h₅.objs.size:=by
   obtain⟨o,ho⟩:=D2.live _ _ g2;rw[e₅.1];exact aM ho
  have hT:j_ h₈ h₅.objs.size x y:=e₈.extBut _ _ (fD yR) (e₇.extBut _ _ (fD yR) (aL _ rfl));refine q h₅.objs.size x y h₈ k₄ px py (by rw[sz];exact ay _) hT ⟨n_ _ _ Z.TIz (tD _ _ Z.TIz Z.TITO Z.TI1 Z.TI2 rC),⟨x,y,n_ _ _ Z.TOz mJ⟩,.inr ⟨h₅.objs.size,.bool xn,_,fD yR,fD (aM mJ),fD DY,fD DX,hT,qW⟩⟩ ?_ ?_ λc o c1 c2 c3 c4 e=>n_ c o c1 (tD c o c1 c2 c3 c4 e)
  ·exact vn g1 λb o b1 b2 b3 e=>n_ _ _ b1 (e₅.extBut _ _ b2 (e₄.extBut _ _ b3 (e₃.extBut _ _ b2 e)))
  ·exact ue g2 λb o b1 b2 b3 e=>n_ _ _ b1 (e₅.extBut _ _ b2 e)
 ·show aG _ _ (pU (.ref z) 2 >>= _) _ _ _;refine ab (cZ hz rfl (x:=.bool xn) rfl ?_);show aG _ _ (pU (.ref z) 3 >>= _) _ _ _;refine ab (cZ hz rfl (x:=.ref TI) rfl (ab (dZ rC rfl ?_)));show aG _ _ (cm (.ref z) >>= _) _ _ _;unfold cm;refine ab (ab (cZ hz rfl (x:=fW T0) rfl ?_));show aG _ _ (loadIfAlive T0 >>= _) _ _ _;refine ab (a2d ?_);rw[yw];rw[aI (by simp)];refine de (Q:=λb s'=>b=xn/\∃h₁ f,s'={s with heap:=h₁}/\h₁.get? z=cz {cls:=.type "zip",dict:=p4,data:=.fields #[fW T0,f,.bool xn,.ref TI,.ref TO],slots:=#[]}/\dH z s.heap h₁) ?_ (λb s' hb=>?_) λ_ _ e=>e
  ·refine ab (cZ hz rfl (x:=f1) rfl ?_);by_cases c:(f1 !=jW rp)=rp
   ·rw[aC c];exact ab (fU hz (by simp) λh₁ kh e₁=>ah ⟨rfl,h₁,.bool rp,rfl,kh,e₁⟩)
   ·rw[aI c];exact ah ⟨rfl,s.heap,f1,rfl,hz,⟨rfl,λ_ _=>rfl⟩⟩
  ·obtain⟨rfl,h₁,f,rfl,kh,e₁⟩:=hb;simp only[bF,dw];refine ab (ab (ab (cx ?_)));show aG _ _ (cE (.ref i1) >>= _) _ _ _;refine ab (D1.item i _ _ _ hi (vn s1 λb o b1 _ _ e=>e₁.extBut _ _ b1 e) λx h₂ k₂ px g1 e₂=>ah (ah ?_))
   replace e₂:dH i1 h₁ h₂:=e₂
   refine ab (ab (cx ?_));show aG _ _ (cE (.ref i2) >>= _) _ _ _;refine ab (D2.item i _ _ _ hi (ue s2 λb o b1 b2 b3 e=>e₂.extBut _ _ b3 (e₁.extBut _ _ b1 e)) λy h₃ k₃ py g2 e₃=>ah (ah (ah ?_)))
   replace e₃:dH i2 h₂ h₃:=e₃
   have sz:h₃.objs.size=s.heap.objs.size:=by rw[e₃.1,e₂.1,e₁.1]
   have mx:∀c o,c≠z->c≠i1->c≠i2->s.heap.get? c=cz o->h₃.get? c=cz o:=λc o c1 c3 c4 e=>e₃.extBut _ _ c4 (e₂.extBut _ _ c3 (e₁.extBut _ _ c1 e))
   have wD:=e₃.extBut _ _ Z.z2 (e₂.extBut _ _ Z.z1 kh);refine ab (vW (hsz:=by rw[cJ];show 2<=_;decide) (ah ⟨_,rfl,?_⟩));refine q h₃.objs.size x y _ k₃ px py (by rw[sz];exact ay _) (aL _ rfl) ⟨af _ (mx _ _ Z.TIz Z.TI1 Z.TI2 rC),⟨a,b,af _ (mx _ _ Z.TOz Z.TO1 Z.TO2 xy)⟩,.inr ⟨T0,f,o0,t1,t2,t3,t4,af _ (mx _ _ t1 t3 t4 yw),af _ wD⟩⟩ ?_ ?_ λc o c1 c2 c3 c4 e=>af _ (mx c o c1 c3 c4 e)
   ·exact vn g1 λb o b1 b2 b3 e=>af _ (e₃.extBut _ _ b3 e)
   ·exact ue g2 λb o b1 b2 b3 e=>af _ e
def b2T(D1:Draws prog w A i1 fp1 n P1 St1)(Z:ZApart z TI TO i1 i2 fp1 fp2)(hz:a3t s.heap z TI TO i1 i2)(s1:St1 n s.heap)
  (q:∀h' e,(∀c o,c≠z->c≠TO->c≠i1->c≠i2->s.heap.get? c=cz o->h'.get? c=cz o)->(∃o,h'.get? e=cz o/\o.cls=.type "StopIteration")->E (.ref e) {s with heap:=h'}) :
  aG (aT prog w) A (Builtin.«zip.__next__» ⟨[.ref z],[]⟩) Q E s:=by
 have vn:∀{h h':cf} {j:Nat},St1 j h->(∀b o,b≠z->b≠TO->b≠i2->h.get? b=cz o->h'.get? b=cz o)->St1 j h':=λst k=>D1.frame _ _ _ st λb hb o e=>k b o (λx=>Z.zf1 (x▸hb)) (λx=>Z.Of1 (x▸hb)) (λx=>Z.if1 (x▸hb)) e
 obtain⟨rC,⟨a,b,xy⟩,hz⟩:=hz;rcases hz with hz|⟨T0,f1,o0,t1,t2,t3,t4,yw,hz⟩
 ·show aG _ _ (pU (.ref z) 2 >>= _) _ _ _;refine ab (cZ hz rfl (x:=.bool xn) rfl ?_);show aG _ _ (pU (.ref z) 3 >>= _) _ _ _;refine ab (cZ hz rfl (x:=.ref TI) rfl (ab (dZ rC rfl ?_)));show aG _ _ (cm (.ref z) >>= _) _ _ _;unfold cm;refine ab (ab (cZ hz rfl (x:=.none) rfl (ah ?_)));simp only[jt];refine ab (gw (ab (cZ hz rfl (x:=.ref TO) rfl ?_)));refine ab (fU hz (by simp) λh₁ kh e₁=>ab ?_)
  replace kh:oW h₁ z TI TO .ellipsis:=kh
  simp only[pL,Im,jJ,ku];refine ab (ab (yT ?_));show aG _ _ (cE (.ref i1) >>= _) _ _ _;refine ab (D1.done _ _ _ (vn s1 λb o b1 _ _ e=>e₁.extBut _ _ b1 e) λh₂ e e₂ he=>?_);obtain⟨oe,zQ,Cq⟩:=he;have tK:oW h₂ z TI TO .ellipsis:=e₂ _ _ Z.z1 kh;have Fm:e≠z:=λx=>by subst x;rw[tK]at zQ;cases zQ;simp at Cq
  exact fU tK (by simp) λh₃ _ e₃=>q h₃ e (λc o c1 _ c3 _ x=>e₃.extBut _ _ c1 (e₂ _ _ c3 (e₁.extBut _ _ c1 x))) ⟨oe,e₃.extBut _ _ Fm zQ,Cq⟩
 ·show aG _ _ (pU (.ref z) 2 >>= _) _ _ _;refine ab (cZ hz rfl (x:=.bool xn) rfl ?_);show aG _ _ (pU (.ref z) 3 >>= _) _ _ _;refine ab (cZ hz rfl (x:=.ref TI) rfl (ab (dZ rC rfl ?_)));show aG _ _ (cm (.ref z) >>= _) _ _ _;unfold cm;refine ab (ab (cZ hz rfl (x:=fW T0) rfl ?_));show aG _ _ (loadIfAlive T0 >>= _) _ _ _;refine ab (a2d ?_);rw[yw,aI (by simp)];refine de (Q:=λb s'=>b=xn/\∃h₁,s'={s with heap:=h₁}/\dH z s.heap h₁) ?_ (λb s' hb=>?_) λ_ _ e=>e
  ·refine ab (cZ hz rfl (x:=f1) rfl ?_);by_cases c:(f1 !=jW rp)=rp
   ·rw[aC c];exact ab (fU hz (by simp) λh₁ _ e₁=>ah ⟨rfl,h₁,rfl,e₁⟩)
   ·rw[aI c];exact ah ⟨rfl,s.heap,rfl,⟨rfl,λ_ _=>rfl⟩⟩
  ·obtain⟨rfl,h₁,rfl,e₁⟩:=hb;simp only[bF,dw];refine ab (ab (ab (cx ?_)));show aG _ _ (cE (.ref i1) >>= _) _ _ _;exact ab (D1.done _ _ _ (vn s1 λb o b1 _ _ e=>e₁.extBut _ _ b1 e) λh₂ e e₂ he=>q h₂ e (λc o c1 _ c3 _ x=>e₂ _ _ c3 (e₁.extBut _ _ c1 x)) he)
def b0O(D1:Draws prog w A.in1 i1 fp1 n P1 St1)(D2:Draws prog w A.in1 i2 fp2 n P2 St2)(Z:ZApart z TI TO i1 i2 fp1 fp2)(hz:a3t s.heap z TI TO i1 i2)(hi:i<n)(s1:St1 i s.heap)(s2:St2 i s.heap)
  (q:∀T x y h' tk,P1 i x->P2 i y->s.heap.objs.size<=T->j_ h' T x y->a3t h' z TI TO i1 i2->St1 (i+1) h'->St2 (i+1) h'->(∀c o,c≠z->c≠TO->c≠i1->c≠i2->s.heap.get? c=cz o->h'.get? c=cz o)->Q (cz (.ref T)) {s with heap:=h',toks:=tk}) :
  aG (aT prog w) A (k_ (.ref z)) Q E s:=by
 have hT:s.TypeIs (.ref z) "zip":=by
  rcases hz.2.2 with h|⟨_,_,_,_,_,_,_,_,h⟩
  ·exact⟨_,h,rfl⟩
  ·exact⟨_,h,rfl⟩
 unfold k_;exact ab (lV (cN (name:=dq "__next__") hT nv (cD nv hT F.entry_zip_next
  (b0N D1 D2 Z hz hi s1 s2 λT x y h' tk a1 a2 a3 a4 a5 a6 a7 a8=>ah (q T x y h' tk a1 a2 a3 a4 a5 a6 a7 a8)) (F.args_zip_next_1 _))))
def b0P(D1:Draws prog w A.in1 i1 fp1 n P1 St1)(Z:ZApart z TI TO i1 i2 fp1 fp2)(hz:a3t s.heap z TI TO i1 i2)(s1:St1 n s.heap)
  (q:∀h',(∀c o,c≠z->c≠TO->c≠i1->c≠i2->s.heap.get? c=cz o->h'.get? c=cz o)->Q p4 {s with heap:=h'}):aG (aT prog w) A (k_ (.ref z)) Q E s:=by
 have hT:s.TypeIs (.ref z) "zip":=by
  rcases hz.2.2 with h|⟨_,_,_,_,_,_,_,_,h⟩
  ·exact⟨_,h,rfl⟩
  ·exact⟨_,h,rfl⟩
 unfold k_;refine ab (lV (cN (name:=dq "__next__") hT nv (cD nv hT F.entry_zip_next (b2T D1 Z hz s1 λh' e hk he=>?_) (F.args_zip_next_1 _))));obtain⟨o,ho,hc⟩:=he;exact ab (ix (T:="StopIteration") (b:=rp) ⟨o,ho,hc⟩ isSubtype_stop (ah (q _ hk)))
end
namespace F
def entry_zip_ga:entryFor table "zip.__getattribute__"=cz Builtin.«object.__getattribute__»:=
 entryFor_alias (id':="object.__getattribute__") (by kernel_rfl) (by first|rfl|decide +kernel) (by decide +kernel) (by kernel_rfl)
def lk_zip_keys:vZ (.type "zip") "keys"=pure p4:=by rw[typeLookup_type,Ii];kernel_rfl
def lk_zip_hook:vZ (.type "zip") "__getattr__"=pure p4:=by rw[typeLookup_type,Ii];kernel_rfl
end F
def b2U(a:au)(vs:Array aj)(u:Tok):Meets (Builtin.«object.__getattribute__» ⟨[.ref a,.str "keys" u],[]⟩) (λA R s=>s.heap.get? a=cz {cls:=.type "zip",dict:=p4,data:=.fields vs,slots:=#[]}/\raisesAttr (.ref a) "keys" A R s):=
 Meets.of_wp λprog w A R s hs=>by
  obtain⟨hp,g,d,tk,os⟩:=s;obtain⟨hx,hs⟩:=hs;have hT:(⟨hp,g,d,tk,os⟩:aq).TypeIs (.ref a) "zip":=⟨_,hx,rfl⟩;have f4:=F.lk_zip_keys
  repeat (any_goals (first|assumption|wp_step))
  exact wpAny_raiseAttrError hs.1 hs.2 (attrMsg_fits (by decide +kernel) (by size_fits))
def a8p{A:bL}{s:aq}(hA:A.handled=p4)(hx:s.heap.get? a=cz {cls:=.type "zip",dict:=p4,data:=.fields vs,slots:=#[]})
  (q:∀h' tk,(∀b o,s.heap.get? b=cz o->h'.get? b=cz o)->Q p4 {s with heap:=h',toks:=tk}):aG (aT prog w) A (getAttr? (.ref a) "keys") Q E s:=by
 obtain⟨hp,g,d,tk,os⟩:=s;have hT:∀Bg,(⟨hp,g,d,Bg,os⟩:aq).TypeIs (.ref a) "zip":=λ_=>⟨_,hx,rfl⟩
 have f1:=sub_AttributeError;have f3:=mO.lookup;have f4:=mO.bind (.ref a);have f5:=F.lk_zip_hook;unfold getAttr? getAttrBy? getAttrBy
 repeat (any_goals (first|assumption|exact hT _|((with_reducible show aG _ _ (call (AS "zip.__getattribute__") _ _) _ _ _);refine call_meets mO (hT _) F.entry_zip_ga (F.args_zip_getattribute_2 _ _) (b2U a vs _) ⟨hx,hA,λh' Bg e sr=>?_⟩)|wp_step))
 obtain⟨t',u',he⟩:=sr.there;show aG _ _ (getattributeRaised _ _ _ _ _ _ _) _ _ _;unfold getattributeRaised
 repeat (any_goals (first|assumption|wp_step))
 trace_state
 exact q _ _ sr.keeps
end PySem
namespace PySem.F
def entry_dict_update_loop:entryFor table "dict.update.loop"=cz Builtin.«dict.update.loop»:=entryFor_of_tree (by kernel_rfl)
def plain_dict_update_loop:plainId "dict.update.loop"=rp:=by decide +kernel
end PySem.F
namespace VS
open PySem PySem.Spec L2
def ziE(ns ms:List Int):List (D×V×V):=(ns.zip ms).map λp=>(.int p.1,.int p.1,.int p.2)
section
variable {X:Cx}{pins:List (au×gE)}{Y:L2.St}{H:Hp}{A:bL}{d z TI TO i1 i2:au}{fp1 fp2:List au}{St1 St2:Nat->cf->Prop}{ns ms:List Int}
def b2V(hu:A.units+20<du)
  (D1:Draws X.prog X.w A.in1.in1 i1 fp1 ns.length (λi v=>∃t,v=.int (ns.getD i 0) t) St1) (D2:Draws X.prog X.w A.in1.in1 i2 fp2 ns.length (λi v=>∃t,v=.int (ms.getD i 0) t) St2) (Z:ZApart z TI TO i1 i2 fp1 fp2)
  (hl:ms.length=ns.length) (kc:ns.Nodup) (hsz:ns.length<aV) (dz:d∉[z,TI,TO,i1,i2]++fp1++fp2):∀(k i:Nat) (s:aq),ns.length-i=k->i<=ns.length->
   Inv X pins Y (upd H d (c6 d (ziE (ns.take i) (ms.take i)))) s->(∀b∈[z,TO,i1,i2],a0u X pins (upd H d (c6 d [])) b)->a3t s.heap z TI TO i1 i2->St1 i s.heap->St2 i s.heap->
   (∀s',Inv X pins Y (upd H d (c6 d (ziE ns ms))) s'->R (.ok (.ret .none)) s')->iZ (aT X.prog X.w) A (.builtin "dict.update.loop" ⟨[.ref d,.ref z,fW i,.none],[]⟩) R s:=by
 have dn:∀b,b∈[z,TI,TO,i1,i2]++fp1++fp2->b≠d:=λb hb e=>dz (e▸hb)
 have CI:∀{o o':HO} {b:au},b≠d->a0u X pins (upd H d o) b->a0u X pins (upd H d o') b:=λhb h=>⟨by rw[f7 hb];have:=h.1;rwa[f7 hb]at this,h.2⟩
 intro k
 induction k with
 |zero=>
  intro i s hk hi I hf hz g1 g2 hR;have e:i=ns.length:=by lia
  subst e;refine eR PySem.F.entry_dict_update_loop ?_;rw[dm PySem.F.plain_dict_update_loop _];show aG _ A.in1 (k_ (.ref z) >>= _) _ _ s;refine ab (b0P D1 Z hz g1 λh' up=>?_);rw[lr,<-hl,lr]at I;refine ab (ah (ah (hR _ ?_)));exact a2x (t':=s.toks) (ch:=[z,TO,i1,i2]) I (λb o hb e=>up b o (λq=>hb (by simp[q])) (λq=>hb (by simp[q])) (λq=>hb (by simp[q])) (λq=>hb (by simp[q])) e) λb hb=>CI (dn b (by
   simp only[aF,eh,or_false]at hb;rcases hb with rfl|rfl|rfl|rfl<;>simp)) (hf b hb)
 |succ k ih=>
  intro i s hk hi I hf hz g1 g2 hR;have gX:i<ns.length:=by lia
  refine eR PySem.F.entry_dict_update_loop ?_;rw[dm PySem.F.plain_dict_update_loop _];show aG _ A.in1 (k_ (.ref z) >>= _) _ _ s;refine ab (b0O D1 D2 Z hz gX g1 g2 λT x y h' tk px py hT Ct Ed ud mK up=>?_);obtain⟨tx,rfl⟩:=px;obtain⟨ty,rfl⟩:=py;have I1:Inv X pins Y (upd H d (c6 d (ziE (ns.take i) (ms.take i)))) {s with heap:=h',toks:=tk}:=a2x (t':=tk) (ch:=[z,TO,i1,i2]) I (λb o hb e=>up b o (λq=>hb (by simp[q])) (λq=>hb (by simp[q])) (λq=>hb (by simp[q])) (λq=>hb (by simp[q])) e) λb hb=>CI (dn b (by
   simp only[aF,eh,or_false]at hb;rcases hb with rfl|rfl|rfl|rfl<;>simp)) (hf b hb)
  refine ab (cx (ab (wpAny_tryCatch ?_)));unfold Builtin.Dict.pairItems;refine ab (jw (show AU {s with heap:=h',toks:=tk} (.ref T) "tuple" from⟨_,Ct,rfl⟩) ?_);rw[aC (by decide)];refine ab (dZ Ct rfl (ah ?_));show aG _ _ (rd _ (GG d (.int (ns.getD i 0) tx) (.int (ms.getD i 0) ty))) _ _ _;refine cx ?_;unfold GG
  try with_reducible refine cx ?_
  have kk:keyOk xn (aJ (ns.getD i 0)):=u9 rfl;have xg:∀e∈ziE (ns.take i) (ms.take i),∃n m,n∈ns.take i/\e=(aJ n,V.int n,V.int m):=λe he=>by
   obtain⟨p,hp,rfl⟩:=bj.mp he;exact⟨p.1,p.2,(ir hp).1,rfl⟩
  have K:KeysAt X (upd H d (c6 d (ziE (ns.take i) (ms.take i)))) xn (ziE (ns.take i) (ms.take i)) (.int (ns.getD i 0)) (.int (ns.getD i 0)):=⟨λe he=>by
   obtain⟨n,m,_,rfl⟩:=xg e he;exact⟨u9 rfl,den_int⟩,kk,den_int⟩
  have kC:ns.getD i 0=ns[i]:=by rw[aB,ai gX];rfl
  have Av:ms.getD i 0=ms[i]:=by rw[aB,ai (by lia)];rfl
  have qy:∀e∈ziE (ns.take i) (ms.take i),e.1≠aJ (ns.getD i 0):=λe he h=>by
   obtain⟨n,m,hn,rfl⟩:=xg e he
   injection h with h
   obtain⟨j,hj,e2⟩:=gR.mp hn;rw[bT]at hj;rw[Dc,h,kC]at e2;have ym:j<ns.length:=by lia
   have:=(List.getElem?_inj ym kc).mp (show ns[j]?=ns[i]? by rw[ai ym,ai gX,e2]);lia
  have hlen:(ziE (ns.take i) (ms.take i)).length=i:=by unfold ziE;rw[ag,dS,bT,bT];lia
  have EK:ziE (ns.take i) (ms.take i)++[(.int (ns.getD i 0),.int (ns.getD i 0),.int (ms.getD i 0))]=ziE (ns.take (i+1)) (ms.take (i+1)):=by
   unfold ziE;rw[iW gX,iW (show i<ms.length by lia),qF (by rw[bT,bT];lia),aQ,kC,Av];rfl
  have rk:RelV (V.int (ns.getD i 0)) (iy (ns.getD i 0) tx):=⟨tx,rfl⟩;have rv:RelV (V.int (ms.getD i 0)) (iy (ms.getD i 0) ty):=⟨ty,rfl⟩;refine ab (X8 I1 (by show A.units+1+10<_;lia) K.key K.den rk ?_);refine a6A (s:={s with heap:=h',toks:=tk+r9 (aJ (ns.getD i 0))}) (I1.tok _) (by show A.units+1+10<_;lia) g9 K rk rv (by rw[hlen];lia) qy λh2 I2 sb=>?_
  rw[EK,show upd (upd H d (c6 d (ziE (ns.take i) (ms.take i)))) d (c6 d (ziE (ns.take (i+1)) (ms.take (i+1))))=upd H d (c6 d (ziE (ns.take (i+1)) (ms.take (i+1)))) from funext λb=>by unfold upd;split<;>rfl]at I2;have tE:∀b o,b≠d->h'.get? b=cz o->h2.get? b=cz o:=λb o hb e=>sb.extBut b o hb e
  refine ah ⟨gx PySem.F.plain_dict_update_loop _,?_⟩;have:=ih (i+1) {s with heap:=h2,toks:=tk+r9 (aJ (ns.getD i 0))} (by lia) gX I2 hf ?_ (D1.frame _ _ _ ud λb hb o e=>tE b o (dn b (by simp[hb])) e) (D2.frame _ _ _ mK λb hb o e=>tE b o (dn b (by simp[hb])) e) hR
  ·exact this
  ·obtain⟨a1,⟨p,q,a2⟩,a3⟩:=Ed;refine⟨tE _ _ (dn TI (by simp)) a1,⟨p,q,tE _ _ (dn TO (by simp)) a2⟩,?_⟩;rcases a3 with a3|⟨T0,f1,o0,t1,t2,t3,t4,t5,t6⟩
   ·exact .inl (tE _ _ (dn z (by simp)) a3)
   ·by_cases c:T0=d
    ·subst c;obtain⟨o',nS⟩:∃o',h2.get? T0=cz o':=by
      obtain⟨_,_,_,o,_,_,h1,_⟩:=n9 I2 g9;exact⟨o,h1⟩
     exact .inr ⟨T0,f1,o',t1,t2,t3,t4,nS,tE _ _ (dn z (by simp)) t6⟩
    ·exact .inr ⟨T0,f1,o0,t1,t2,t3,t4,tE _ _ c t5,tE _ _ (dn z (by simp)) t6⟩
end
end VS
namespace PySem
open Sem (wp)
abbrev a9j(h:cf)(l1:au):cf:=h.push {cls:=.type "tuple_iterator",data:=.fields #[.ref l1,.int 0 0]}
abbrev a9k(h:cf)(l1 l2:au):cf:=(a9j h l1).push {cls:=.type "tuple_iterator",data:=.fields #[.ref l2,.int 0 0]}
abbrev a9l(h:cf)(l1 l2:au):cf:=(a9k h l1 l2).push {cls:=.type "tuple",data:=.seq #[.ref h.objs.size,.ref (a9j h l1).objs.size]}
abbrev a9m(h:cf)(l1 l2:au):cf:=(a9l h l1 l2).push {cls:=.type "tuple",data:=.seq #[.none,.none]}
abbrev a4K(h:cf)(l1 l2:au):cf:=(a9m h l1 l2).push {cls:=.type "zip",data:=.fields #[.none,.bool xn,.bool xn,.ref (a9k h l1 l2).objs.size,.ref (a9l h l1 l2).objs.size]}
def a8q(l1 l2:au)(xs ys:Array aj):Meets (Builtin.«zip.__new__» ⟨[.type "zip",.ref l1,.ref l2],[]⟩) (λ_ R s=>s.heap.IsTuple l1 xs/\s.heap.IsTuple l2 ys/\R (.ok (.ret (.ref (a9m s.heap l1 l2).objs.size))) {s with heap:=a4K s.heap l1 l2}):=
 .of_wp λprog w A R s h=>by
  obtain⟨hp,g,d,tk,os⟩:=s;obtain⟨tR,rV,h⟩:=h;have jT:=sub_zip;have Ga:cf.IsTuple (aq.heap ⟨hp,g,d,tk,os⟩) l1 xs:=tR;have vJ:cf.IsTuple (aq.heap ⟨hp.push {cls:=.type "tuple_iterator",data:=.fields #[.ref l1,.int 0 0]},g,d,tk,os⟩) l2 ys:=cf.IsTuple.push rV _
  wp_walk using qd Ga,qd vJ
  exact⟨_,rfl,h⟩
section
variable {prog:bA}{w:bX}{A:bL}{E:aj->aq->Prop}{s:aq}
def b0Q(tR:s.heap.IsTuple l1 xs)(rV:s.heap.IsTuple l2 ys)
  (q:∀h',oW h' (s.heap.objs.size+4) (s.heap.objs.size+2) (s.heap.objs.size+3) .none->j_ h' (s.heap.objs.size+2) (.ref s.heap.objs.size) (.ref (s.heap.objs.size+1))->j_ h' (s.heap.objs.size+3) .none .none->h'.IsTupleIter s.heap.objs.size l1 0->h'.IsTupleIter (s.heap.objs.size+1) l2 0->
   (∀c o,s.heap.get? c=cz o->h'.get? c=cz o)->Q (.ref (s.heap.objs.size+4)) {s with heap:=h'}):aG (aT prog w) A (call (.type "zip") [.ref l1,.ref l2]) Q E s:=by
 refine callType_new F.called_zip (by decide) (F.typeCall_zip_2 _ _) (F.newCall_zip_2 _ _) (λobj=>F.args_object_init_3 obj _ _) F.entry_zip_new (a8q l1 l2 xs ys) ⟨tR,rV,?_⟩;have z1:(a9j s.heap l1).objs.size=s.heap.objs.size+1:=ip ..;have z2:(a9k s.heap l1 l2).objs.size=s.heap.objs.size+2:=by rw[ip,z1]
 have z3:(a9l s.heap l1 l2).objs.size=s.heap.objs.size+3:=by rw[ip,z2]
 have z4:(a9m s.heap l1 l2).objs.size=s.heap.objs.size+4:=by rw[ip,z3]
 have up:∀{h:cf} {o:gE} {c:au} {u:gE},h.get? c=cz u->(h.push o).get? c=cz u:=λe=>af _ e
 have g5:(a4K s.heap l1 l2).get? (a9m s.heap l1 l2).objs.size=cz _:=aL _ rfl;have g4:(a4K s.heap l1 l2).get? (a9l s.heap l1 l2).objs.size=cz _:=up (aL _ rfl);have g3:(a4K s.heap l1 l2).get? (a9k s.heap l1 l2).objs.size=cz _:=up (up (aL _ rfl));have g2:(a4K s.heap l1 l2).get? (a9j s.heap l1).objs.size=cz _:=up (up (up (aL _ rfl)));have g1:(a4K s.heap l1 l2).get? s.heap.objs.size=cz _:=up (up (up (up (aL _ rfl))));show _/\_;rw[z2,z3,z4]at g5;rw[z1,z2]at g3;rw[z3]at g4;rw[z1]at g2;rw[z4];exact⟨⟨_,g5,rfl⟩,q _ g5 g3 g4 ⟨_,g1,rfl,rfl⟩ ⟨_,g2,rfl,rfl⟩ λc o x=>up (up (up (up (up x))))⟩
end
end PySem
namespace VS
open PySem PySem.Spec L2
section
variable {X:Cx}{pins:List (au×gE)}{Y:L2.St}{H:Hp}{s:aq}{z TI TO i1 i2:au}{fp1 fp2:List au}{St1 St2:Nat->cf->Prop}{ns ms:List Int}
def b2W(hc:X.calm=rp)(hu:X.A.units+40<du)(I:Inv X pins Y H s)
  (D1:∀A:bL,A.handled=p4->Draws X.prog X.w A i1 fp1 ns.length (λi v=>∃t,v=.int (ns.getD i 0) t) St1) (D2:∀A:bL,A.handled=p4->Draws X.prog X.w A i2 fp2 ns.length (λi v=>∃t,v=.int (ms.getD i 0) t) St2) (Z:ZApart z TI TO i1 i2 fp1 fp2)
  (hl:ms.length=ns.length) (kc:ns.Nodup) (hsz:ns.length<aV) (gX:∀b∈[z,TI,TO,i1,i2]++fp1++fp2,b<s.heap.objs.size) (hf:∀b∈[z,TO,i1,i2],a0u X pins H b) (hz:oW s.heap z TI TO .none) (rC:j_ s.heap TI (.ref i1) (.ref i2)) (xy:j_ s.heap TO .none .none) (g1:St1 0 s.heap) (g2:St2 0 s.heap)
  (q:∀d,H d=p4->Q (.ref d) (upd H d (c6 d (ziE ns ms)))):aG (aT X.prog X.w) X.A (call (.type "dict") [.ref z]) (EP X pins Y Q) X.xe s:=by
 have hh:X.A.handled=p4:=I.ok.hd hc;refine oH (Q₁:=λobj s₁=>obj=.ref s.heap.objs.size/\s₁={s with heap:=s.heap.push {cls:=.type "dict",data:=.dict #[]}}) PySem.F.kt_called_dict (PySem.F.kt_typeCall_dict_1 _) PySem.F.entry_dict_init (kt_code_dict_new _ ⟨rfl,rfl⟩) ?_;rintro obj s₁ ⟨rfl,rfl⟩;have sD:(s.heap.push {cls:=.type "dict",data:=.dict #[]}).DictOf (eU X.prog X.w) s.heap.objs.size []:=cf.DictOf.new s.heap;refine⟨sD.typeIs,PySem.F.args_dict_init_2 _ _,?_⟩;have BD:oW (s.heap.push {cls:=.type "dict",data:=.dict #[]}) z TI TO .none:=af _ hz;unfold Builtin.«dict.__init__»;refine ab ?_;unfold mh;refine ab (gf sD.typeIs ?_);show aG _ _ (pure (s.heap.objs.size,[be z])) _ _ _;refine ah ?_;show aG _ _ (fG "dict.__init__" s.heap.objs.size (.ref z) [] .none) _ _ _;unfold fG;refine ab (jw (T:="zip") ⟨_,BD,rfl⟩ ?_);rw[aC (by decide)];refine ab (a8p hh BD λh2 tk up=>?_);rw[aC (show (p4:Option aj).isNone=rp from rfl)];have keep:∀b o,s.heap.get? b=cz o->h2.get? b=cz o:=λb o e=>up b o (af _ e)
 have BC:oW h2 z TI TO .none:=keep _ _ hz;refine ab (gw (ab (wpAny_pyIter_zip BC (ah ⟨gx PySem.F.plain_dict_update_loop _,?_⟩))));have Am:H s.heap.objs.size=p4:=I.hok.fresh (ay _);have nd:∀b∈[z,TI,TO,i1,i2]++fp1++fp2,b≠s.heap.objs.size:=λb hb e=>absurd (gX b hb) (by rw[e];exact dQ _)
 have I0:Inv X pins Y (upd H s.heap.objs.size (c6 s.heap.objs.size [])) {s with heap:=s.heap.push {cls:=.type "dict",data:=.dict #[]}}:=I.laid (a:=s.heap.objs.size) (o:=c6 s.heap.objs.size []) (t':=s.toks) (λ_ _ q=>af _ q) (ay _) (a1T s.heap I.sysBelow);have I1:Inv X pins Y (upd H s.heap.objs.size (c6 s.heap.objs.size [])) {s with heap:=h2,toks:=tk}:=I0.kept (t':=tk) up;refine b2V (X:=X) (pins:=pins) (Y:=Y) (H:=H) (A:=X.A.in1) (d:=s.heap.objs.size) (z:=z) (ns:=ns) (ms:=ms) (by show X.A.units+1+20<_;lia) (D1 _ hh) (D2 _ hh) Z hl kc hsz (λhb=>nd _ hb rfl) ns.length 0 {s with heap:=h2,toks:=tk} rfl (cj _) I1 (λb hb=>?_) ⟨keep _ _ rC,⟨_,_,keep _ _ xy⟩,.inl BC⟩
  ((D1 _ hh).frame _ _ _ g1 λb _ o e=>keep b o e) ((D2 _ hh).frame _ _ _ g2 λb _ o e=>keep b o e) λs' I'=>⟨rfl,.ref s.heap.objs.size,_,I',rfl,q _ Am⟩
 have yt:b∈[z,TI,TO,i1,i2]++fp1++fp2:=by
  simp only[aF,eh,or_false]at hb;rcases hb with rfl|rfl|rfl|rfl<;>simp
 exact⟨by rw[f7 (nd b yt)];exact (hf b hb).1,(hf b hb).2⟩
end
end VS
namespace PySem
def Draws.imp(D:Draws prog w A it fp n P St)(h:∀i v,i<n->P i v->P' i v):Draws prog w A it fp n P' St:=
 ⟨D.live,D.frame,λi s Q E hi st q=>D.item i s Q E hi st λx h' tk p=>q x h' tk (h i x hi p),D.done⟩
def b2X:gL "zip"=cz (.type "zip"):=by kernel_rfl
end PySem
namespace VS
open PySem PySem.Spec L2
def SqI(K:ae)(H:Hp)(l:Bool)(a:au)(ns:List Int):Prop:=if l then SqL K H a (ns.map V.int) else SqT K H a (ns.map V.int)
def a2A{ns:List Int}(h:Vals (ns.map V.int) cQ):cQ.length=ns.length/\∀(i:Nat) (v:aj),cQ[i]?=cz v->∃t,v=.int (ns.getD i 0) t:=by
 refine⟨by rw[<-h.length,ag],λi v hv=>?_⟩;have hi:i<ns.length:=by rw[<-ag (f:=V.int),h.length];exact (aN.mp hv).1
 obtain⟨u,hu,r⟩:=h.get (show (ns.map V.int)[i]?=cz (V.int (ns.getD i 0)) by rw[aZ,ai hi,aB,ai hi];rfl);rw[hv]at hu;cases hu
 exact r
section
variable {X:Cx}{M:List Md}{a b:Expr}{fa fb:EvE}{ca cb:Cat}{pos gB p p2:fQ}
def tDZ(X:Cx)(l:Bool)(t:TA):TE:=λY H Q=>t Y H λxs H1=>∃u v ns ms,xs=[.ref u,.ref v]/\SqI X.K H1 l u ns/\SqI X.K H1 l v ms/\ms.length=ns.length/\ns.Nodup/\ns.length<aV/\∀d,H1 d=p4->Q (.ref d) (upd H1 d (c6 d (ziE ns ms)))
def a8r(hc:X.calm=rp)(hu:X.A.units+40<du)(vG:X.mg "dict"=p4)(wU:X.mg "zip"=p4)(ha:PA X [a,b] t)(Af:Gl X "dict":=by rfl)(Ae:Gl X "zip":=by rfl)
  (he:ao [a,b] X.env=(xn,cG a X.env)::ao [b] X.env:=by rfl) (gh:(cC gB (ao [b] X.env)).any (·.1)=xn:=by rfl)
  (nK:ao [.Call (.Name "zip" p2) [a,b] [] gB] X.env=(xn,cG (.Call (.Name "zip" p2) [a,b] [] gB) X.env)::ao [] X.env:=by rfl) (pC:(cC pos (ao [] X.env)).any (·.1)=xn:=by rfl) :
  PE X (.Call (.Name "dict" p) [.Call (.Name "zip" p2) [a,b] [] gB] [] pos) (tDZ X l t):=by
 intro pins s Y H Q I h;refine fV (a0g I Af vG PyProof.Rows.Boot.«dict» ?_ (by decide) (by decide));refine fC ?_ nK pC;rw[nK];show aG _ _ (spliced ((xn,cG (.Call (.Name "zip" p2) [a,b] [] gB) X.env)::cC pos (ao [] X.env))) _ _ s;refine Calls.spliced_cons ?_;refine fV (a0g I Ae wU b2X ?_ (by decide) (by decide));refine fC (L2.thn (ha gB pins s Y H _ I h) λus s1 ⟨xs,H1,I1,r1,q1⟩=>?_) he gh;obtain⟨u,v,ns,ms,rfl,BR,BQ,hl,kc,hsz,q⟩:=q1;cases r1 with
 |cons r rr=>
  cases rr with
  |cons r' Dz=>
   cases Dz
   cases (show _=be u from r)
   cases (show _=be v from r')
   have fin:∀(h':cf) (fp1 fp2:List au) (St1 St2:Nat->cf->Prop),oW h' (s1.heap.objs.size+4) (s1.heap.objs.size+2) (s1.heap.objs.size+3) .none->j_ h' (s1.heap.objs.size+2) (.ref s1.heap.objs.size) (.ref (s1.heap.objs.size+1))->j_ h' (s1.heap.objs.size+3) .none .none->(∀c o,s1.heap.get? c=cz o->h'.get? c=cz o)->
     (∀A:bL,A.handled=p4->Draws X.prog X.w A s1.heap.objs.size fp1 ns.length (λi v=>∃t,v=.int (ns.getD i 0) t) St1)->(∀A:bL,A.handled=p4->Draws X.prog X.w A (s1.heap.objs.size+1) fp2 ns.length (λi v=>∃t,v=.int (ms.getD i 0) t) St2)->
     (∀b:Nat,b∈fp1->b<=s1.heap.objs.size)->(∀b:Nat,b∈fp2->b<s1.heap.objs.size\/b=s1.heap.objs.size+1)->St1 0 h'->St2 0 h'->
     aG (aT X.prog X.w) X.A (spliced (cC pos (ao [] X.env))) (λvs s2=>aG (aT X.prog X.w) X.A (call (.type "dict") (.ref (s1.heap.objs.size+4)::vs)) (EP X pins Y Q) X.xe s2) X.xe {s1 with heap:=h'}:=by
    intro h' fp1 fp2 St1 St2 z1 z2 z3 keep D1 D2 f1 f2 g1 g2;refine Calls.spliced_nil ?_;have I2:Inv X pins Y H1 {s1 with heap:=h'}:=I1.kept (t':=s1.toks) keep;have Ec:s1.heap.objs.size+4<h'.objs.size:=aM z1;refine b2W (X:=X) (ns:=ns) (ms:=ms) (z:=s1.heap.objs.size+4) (TI:=s1.heap.objs.size+2) (TO:=s1.heap.objs.size+3) (i1:=s1.heap.objs.size) (i2:=s1.heap.objs.size+1) (fp1:=fp1) (fp2:=fp2) (St1:=St1) (St2:=St2) hc hu I2 D1 D2 ?_ hl kc hsz (λb hb=>?_) (λb hb=>?_) z1 z2 z3 g1 g2 q
    ·have n1:∀k,1<=k->s1.heap.objs.size+k∉fp1:=λk hk hb=>by have:=f1 _ hb;lia
     have n2:∀k,k≠1->s1.heap.objs.size+k∉fp2:=λk hk hb=>by rcases f2 _ hb with z|z<;>lia
     have ne:∀i j:Nat,i≠j->(s1.heap.objs.size+i:Nat)≠s1.heap.objs.size+j:=λi j h=>by lia
     exact⟨ne 2 4 (by lia),ne 3 4 (by lia),ne 2 3 (by lia),ne 0 1 (by lia),ne 2 0 (by lia),ne 2 1 (by lia),ne 3 0 (by lia),ne 3 1 (by lia),ne 4 0 (by lia),ne 4 1 (by lia),n1 4 (by lia),n2 4 (by lia),n1 3 (by lia),n2 3 (by lia),n2 0 (by lia),n1 1 (by lia)⟩
    ·have hk:∀k:Nat,k<=4->s1.heap.objs.size+k<h'.objs.size:=λk hk=>iA (Nat.add_le_add_left hk _) Ec
     show b<h'.objs.size;rcases az.mp hb with hb|hb
     ·rcases az.mp hb with hb|hb
      ·simp only[aF,eh,or_false]at hb;rcases hb with rfl|rfl|rfl|rfl|rfl
       ·exact hk 4 (by decide)
       ·exact hk 2 (by decide)
       ·exact hk 3 (by decide)
       ·exact hk 0 (by decide)
       ·exact hk 1 (by decide)
      ·exact iA (f1 _ hb) (hk 0 (by decide))
     ·rcases f2 _ hb with z|z
      ·exact fZ z (hk 0 (by decide))
      ·rw[z];exact hk 1 (by decide)
    ·have nU:s1.heap.objs.size<=b:=by
      simp only[aF,eh,or_false]at hb;rcases hb with rfl|rfl|rfl|rfl
      ·exact pK _ _
      ·exact pK _ _
      ·exact ay _
      ·exact pK _ _
     exact I1.fpOk nU (I1.hok.fresh nU)
   cases l with
   |true=>
    obtain⟨t1,v1,p1,_⟩:=I1.list (show SqL X.K H1 u (ns.map V.int) from BR);obtain⟨t2,v2,wg,_⟩:=I1.list (show SqL X.K H1 v (ms.map V.int) from BQ);obtain⟨l1,e1⟩:=a2A v1;obtain⟨l2,e2⟩:=a2A v2;have lu:(u:Nat)<s1.heap.objs.size:=by obtain⟨o,ho,_⟩:=p1.isList;exact aM ho
    have lv:(v:Nat)<s1.heap.objs.size:=by obtain⟨o,ho,_⟩:=wg.isList;exact aM ho
    refine call_zip_2 p1.isList wg.isList λh' z1 z2 z3 y1 y2 _ keep=>?_
    refine fin h' [s1.heap.objs.size,u] [s1.heap.objs.size+1,v] _ _ z1 z2 z3 keep (λA hA=>(show ns.length=t1.toArray.size by simp[l1])▸(Draws.list (prog:=X.prog) (w:=X.w) (A:=A) hA s1.heap.objs.size u (bK lu) t1.toArray).imp λi v _ h=>e1 i v (by simpa using h)) (λA hA=>(show ns.length=t2.toArray.size by simp[l2,hl])▸(Draws.list (prog:=X.prog) (w:=X.w) (A:=A) hA (s1.heap.objs.size+1) v (bK (oQ lv)) t2.toArray).imp λi v _ h=>e2 i v (by simpa using h)) (λb hb=>?_) (λb hb=>?_) ⟨y1,p1.isList.at λo e=>keep _ o e⟩ ⟨y2,wg.isList.at λo e=>keep _ o e⟩
    ·simp only[aF,eh,or_false]at hb;rcases hb with hb|hb
     ·rw[hb];exact ay _
     ·rw[hb];exact eB lu
    ·simp only[aF,eh,or_false]at hb;rcases hb with hb|hb
     ·exact .inr hb
     ·rw[hb];exact .inl lv
   |false=>
    obtain⟨t1,v1,p1,_⟩:=I1.tuple (show SqT X.K H1 u (ns.map V.int) from BR);obtain⟨t2,v2,wg,_⟩:=I1.tuple (show SqT X.K H1 v (ms.map V.int) from BQ);obtain⟨l1,e1⟩:=a2A v1;obtain⟨l2,e2⟩:=a2A v2;have q1:s1.heap.IsTuple u t1.toArray:=p1;have q2:s1.heap.IsTuple v t2.toArray:=wg;have lu:(u:Nat)<s1.heap.objs.size:=by obtain⟨o,ho,_⟩:=q1;exact aM ho
    have lv:(v:Nat)<s1.heap.objs.size:=by obtain⟨o,ho,_⟩:=q2;exact aM ho
    refine b0Q q1 q2 λh' z1 z2 z3 y1 y2 keep=>?_
    refine fin h' [s1.heap.objs.size,u] [s1.heap.objs.size+1,v] _ _ z1 z2 z3 keep (λA hA=>(show ns.length=t1.toArray.size by simp[l1])▸(Draws.tup (prog:=X.prog) (w:=X.w) (A:=A) hA s1.heap.objs.size u (bK lu) t1.toArray).imp λi v _ h=>e1 i v (by simpa using h)) (λA hA=>(show ns.length=t2.toArray.size by simp[l2,hl])▸(Draws.tup (prog:=X.prog) (w:=X.w) (A:=A) hA (s1.heap.objs.size+1) v (bK (oQ lv)) t2.toArray).imp λi v _ h=>e2 i v (by simpa using h)) (λb hb=>?_) (λb hb=>?_) ⟨y1,let⟨o,ho,r⟩:=q1;⟨o,keep _ o ho,r⟩⟩ ⟨y2,let⟨o,ho,r⟩:=q2;⟨o,keep _ o ho,r⟩⟩
    ·simp only[aF,eh,or_false]at hb;rcases hb with hb|hb
     ·rw[hb];exact ay _
     ·rw[hb];exact eB lu
    ·simp only[aF,eh,or_false]at hb;rcases hb with hb|hb
     ·exact .inr hb
     ·rw[hb];exact .inl lv
end
def b5m(l:Bool):D->Option (List Int)
 |.list ds=>if l then intsOf ds else p4
 |.tuple ds=>if l then p4 else intsOf ds
 |_=>p4
def a9n(ns ms:List Int):Bool:=decide (ms.length=ns.length)&&(decide ns.Nodup&&decide (ns.length<1000000))
def ziD(ns ms:List Int):List (D×D):=(ns.zip ms).map λp=>(.int p.1,.int p.2)
noncomputable def K2(l:Bool)(fa fb:EvE):EvE:=λU=>(fa U).bind λd=>(fb U).bind λe=>(b5m l d).bind λns=>(b5m l e).bind λms=>if a9n ns ms then cz (.dict (ziD ns ms)) else p4
theorem a0Q(h:∀m,R (V.int m) (.int m) []):∀ms:List Int,ListAll R (ms.map V.int) (ms.map aJ) []
 |[]=>l7
 |m::ms=>l0 (f:=[]) (h m) (a0Q h ms)
theorem a0R:∀{ns ms:List Int},ms.length=ns.length->(ziE ns ms).map (·.1)=ns.map aJ/\(ziE ns ms).map (·.2.2)=ms.map V.int
 |[],[],_=>⟨rfl,rfl⟩
 |[],_::_,h=>by simp at h
 |_::_,[],h=>by simp at h
 |n::ns,m::ms,h=>by
  obtain⟨h1,h2⟩:=a0R (ns:=ns) (ms:=ms) (by simpa using h);exact⟨d_ (aJ n::·) h1,d_ (V.int m::·) h2⟩
theorem a9o:∀{ns ms:List Int},ms.length=ns.length->ziD ns ms=(ns.map aJ).zip (ms.map .int)
 |[],[],_=>rfl
 |[],_::_,h=>by simp at h
 |_::_,[],h=>by simp at h
 |n::ns,m::ms,h=>by
  have:=a9o (ns:=ns) (ms:=ms) (by simpa using h);exact d_ ((aJ n,aJ m)::·) this
section
variable {X:Cx}{M:List Md}{a b:Expr}{fa fb:EvE}{ca cb:Cat}{pos gB p p2:fQ}{K:ae}{H H':Hp}{F:List au}
def a7c(h:b5m l d=cz ns)(hd:Den K (cut H F) v d):∃u,v=.ref u/\∀H',Same (cut H F) H'->SqI K H' l u ns:=by
 cases d with
 |list ds=>
  cases l with
  |true=>
   have e:=E8 (show intsOf ds=cz ns from h);subst e;obtain⟨u,xs,rfl,k1,k2⟩:=hd.list_inv;rw[W6 k2]at k1;exact⟨u,rfl,λH' s=>(V6 k1 s).l⟩
  |false=>cases h
 |tuple ds=>
  cases l with
  |false=>
   have e:=E8 (show intsOf ds=cz ns from h);subst e;obtain⟨u,xs,rfl,k1,k2⟩:=hd.tup_inv;rw[W6 k2]at k1;exact⟨u,rfl,λH' s=>T6 k1 s⟩
  |true=>cases h
 |_=>cases h
def a3u(l:Bool)(hc:X.calm=rp)(hu:X.A.units+64<du)(vG:X.mg "dict"=p4)(wU:X.mg "zip"=p4)(ha:PX X M a fa ca)(hb:PX X M b fb cb)(FE:frozen ca:=by trivial)(FD:frozen cb:=by trivial)(Af:Gl X "dict":=by rfl)(Ae:Gl X "zip":=by rfl)
  (he:ao [a,b] X.env=(xn,cG a X.env)::ao [b] X.env:=by rfl) (Fo:ao [b] X.env=(xn,cG b X.env)::ao [] X.env:=by rfl) (gh:(cC gB (ao [b] X.env)).any (·.1)=xn:=by rfl)
  (nK:ao [.Call (.Name "zip" p2) [a,b] [] gB] X.env=(xn,cG (.Call (.Name "zip" p2) [a,b] [] gB) X.env)::ao [] X.env:=by rfl) (pC:(cC pos (ao [] X.env)).any (·.1)=xn:=by rfl) :
  PX X M (.Call (.Name "dict" p) [.Call (.Name "zip" p2) [a,b] [] gB] [] pos) (K2 l fa fb) (.new (.d xn .i)):=by
 obtain⟨ta,pa,qa⟩:=ha.out;obtain⟨tb,pb,qb⟩:=hb.out;refine .mk ⟨_,a8r (l:=l) hc (by lia) vG wU (k9 pa (k9 pb o7 Fo) he) Af Ae he gh nK pC,λU Y H P F d Q S hf q=>?_⟩;obtain⟨x,h1,g1⟩:=bnd hf;obtain⟨y,h2,g2⟩:=bnd g1;obtain⟨ns,h3,g3⟩:=bnd g2;obtain⟨ms,h4,g4⟩:=bnd g3;by_cases c:a9n ns ms=rp
 ·rw[aC c]at g4;cases g4
  simp only[a9n,ar,bW]at c;obtain⟨c1,c2,c3⟩:=c;refine qa U Y H P F _ _ S h1 λv H1 e1 r1=>?_
  obtain⟨u,rfl,su⟩:=a7c h3 (D5 FE r1);refine qb U Y H1 P F _ _ (S.grow e1) h2 λw H2 e2 r2=>?_
  obtain⟨u2,rfl,sw⟩:=a7c h4 (D5 FD r2);refine⟨u,u2,ns,ms,rfl,su H2 (i4.trans e2),sw H2 i4,c1,c2,fZ c3 (by rw[cJ];decide),λz hz=>?_⟩;refine q _ _ ((e1.trans e2).trans (j6 hz _)) ⟨[z],?_,bB.mpr ⟨λw=>(nomatch w),bJ⟩,λb hb=>?_⟩
  ·simp only[Own];refine⟨z,ziE ns ms,ms.map .int,[],rfl,g9,?_,rfl,⟨?_,λe he=>?_⟩,?_⟩
   ·rw[(a0R c1).1,a9o c1]
   ·rw[(a0R c1).1];exact Dg _ (λx y h e=>h (by injection e)) c2
   ·obtain⟨pr,_,rfl⟩:=bj.mp he;exact⟨u9 rfl,den_int⟩
   ·rw[(a0R c1).2];exact a0Q (λm=>⟨rfl,a2v,den_int⟩) ms
  ·rw[ak.mp hb];cases hH:H z with
   |none=>rfl
   |some y=>rw[e2 _ _ (e1 _ _ hH)]at hz;cases hz
 ·rw[aI c]at g4;cases g4
end
noncomputable def a3v(i:Nat)(kt kt2:Bool)(fk fj fr fv:EvE):EvS:=λU=>(fk U).bind λk=>match U.getD i .none with
 |.dict kvs=>if m9 kt k&&decide (kvs.length<1000000) then
   (fj (U.set i (.dict (n5 kvs k (.dict []))))).bind λj=>match D0 (n5 kvs k (.dict [])) k with
    |some (.dict pf)=>if m9 kt2 j&&decide (pf.length<1000000) then
      if w6 pf j then (fr (U.set i (.dict (n5 kvs k (.dict []))))).bind λd=>cz (.rt d)
      else (fv (U.set i (.dict (n5 kvs k (.dict []))))).bind λd=>cz (.nx ((U.set i (.dict (n5 kvs k (.dict [])))).set i (.dict (n4 (n5 kvs k (.dict [])) k (.dict (n4 pf j d))))))
     else p4
    |_=>p4
  else p4
 |_=>p4
section
variable {X:Cx}{M M' M2 ML:List Md}{k j j2 v:Expr}{fk fj fr fv:EvE}{ret:iz}{xM wy Bq:fQ}{kt kt2:Bool}{w:Ty}{pos apos cM iP gB mZ:fQ}
def b2Y(i y:Nat)(hu:X.A.units+64<du)(xC:X.N.Nodup)(hk:PX X M k fk (.new .i))(hj:PX X M j fj (.new .i))(ym:PX X M j2 fj (.new .i))(zK:PSX X w ML M ret (p6 fr) M2)(hv:PX X M v fv (.new .i))(ki:PSsX X w ML M sts g M')
  (hN:X.N[i]?=cz x:=by rfl) (t_:X.N[y]?=cz yn:=by rfl) (hm:M[i]?=cz (.own (.d kt (.d kt2 .i))):=by rfl) (pE:M[y]?=cz .dead:=by rfl)
  (tL:Vis X.env.scope x:=by first|exact cg rfl|exact bP (cg rfl)|exact bP (bP rfl)) (hd:(x==("__debug__":bI))=xn:=by decide) (jg:(x==("__classdict__":bI))=xn:=by decide)
  (yc:Vis X.env.scope yn:=by first|exact cg rfl|exact bP (cg rfl)|exact bP (bP rfl)) (vI:(yn==("__debug__":bI))=xn:=by decide) (Cp:(yn==("__classdict__":bI))=xn:=by decide)
  (wX:Loc X.env.scope yn:=by first|exact cg rfl|exact bP rfl) (uZ:X.fn yn=rp\/X.env.scope.names.lookup yn=cz .local:=by first|exact .inl rfl|exact .inr rfl)
  (fx:dC (.Name x px) "setdefault" X.env (cG (.Name x px) X.env)=cG (.Name x px) X.env:=by rfl)
  (lC:((cC cM (ao [k,.Dict [] [] mZ] X.env)).all (λx=>!x.1)&&(oI cM (kg [] X.env)).all (λx=>x.1.isSome)
   && decide (([k,.Dict [] [] mZ]:List Expr).length+([]:List iE).length+(if ([]:List iE).isEmpty then 0 else 1)<30))=rp:=by rfl)
  (fw:(apos.endLine==cM.line)=rp:=by rfl) (hs:ao [k,.Dict [] [] mZ] X.env=(xn,cG k X.env)::ao [.Dict [] [] mZ] X.env:=by rfl) (ou:ao [.Dict [] [] mZ] X.env=(xn,cG (.Dict [] [] mZ) X.env)::ao [] X.env:=by rfl)
  (hX:(cC cM (ao [.Dict [] [] mZ] X.env)).any (·.1)=xn:=by rfl)
  (oq:eX (.Call (.Attribute (.Name x px) "setdefault" apos) [k,.Dict [] [] mZ] [] cM) (cz (.Name yn pz)) pos.line X.env=pure xn:=by rfl)
  (zG:eX v (cz (.Subscript (.Name yn py) j2 iP)) gB.line X.env=pure xn:=by rfl) (ER:fq .In (.Name yn Bq)=xn:=by first|exact a0h _|with_unfolding_all rfl) :
  PSsX X w ML M (.Assign [.Name yn pz] (.Call (.Attribute (.Name x px) "setdefault" apos) [k,.Dict [] [] mZ] [] cM) pos::.If (.Compare j [.In] [.Name yn Bq] xM) [ret] [] wy::.Assign [.Subscript (.Name yn py) j2 iP] v gB::sts) (i9 (a3v i kt kt2 fk fj fr fv) g) M':=by
 obtain⟨tk,pk,qk⟩:=hk.out;obtain⟨tj,pj,qj⟩:=hj.out;obtain⟨Du,DJ,DD⟩:=ym.out;obtain⟨tt,pt,qt⟩:=zK.out;obtain⟨tv,pv,qv⟩:=hv.out;obtain⟨tr,pr,qr⟩:=ki.out;refine .mk ⟨_,V2 (b1k xC t_ wX (b2i PySem.F.slot_dict_setdefault PySem.F.type_dict_setdefault (b4K hu) (x9 hN tL hd jg) (k9 pk (k9 a6y o7 ou) hs) fx lC fw hs hX) oq uZ) (V2 (b5V (a0v (a5D hu) pj (x9 t_ yc vI Cp) ER) (V2 pt a5g) a5g) (V2 (a5E hu (x9 t_ yc vI Cp) DJ pv zG) pr)),λD U Y H P F o S hg kk=>?_⟩;obtain⟨o1,h1,g1⟩:=bnd hg;obtain⟨y0,Ef,h1⟩:=bnd h1;obtain⟨a,es,ds,fs,ha,hH,hU,_⟩:=S.toE.dict hm;rw[hU]at h1
 let kvs:List (VS.D×VS.D):=(es.map (·.1)).zip ds
 have mq:(if (m9 kt y0&&decide (kvs.length<1000000))=rp then (fj (U.set i (.dict (n5 kvs y0 (.dict []))))).bind λj=>match D0 (n5 kvs y0 (.dict [])) y0 with
    |some (.dict pf)=>if m9 kt2 j&&decide (pf.length<1000000) then
      if w6 pf j then (fr (U.set i (.dict (n5 kvs y0 (.dict []))))).bind λd=>cz (Out.rt d)
      else (fv (U.set i (.dict (n5 kvs y0 (.dict []))))).bind λd=>cz (Out.nx ((U.set i (.dict (n5 kvs y0 (.dict [])))).set i (.dict (n4 (n5 kvs y0 (.dict [])) y0 (.dict (n4 pf j d))))))
     else p4
    |_=>p4
  else p4)=cz o1:=h1
 by_cases c:(m9 kt y0&&decide (kvs.length<1000000))=rp
 ·rw[aC c]at mq;obtain⟨j0,sG,mq⟩:=bnd mq;rw[ar]at c;have mX:i<U.length:=by
   obtain⟨G,q1,_⟩:=S.all;obtain⟨d0,_,_,_,_,z1,_⟩:=q1.at_ hm;exact (aN.mp z1).1
  have Cf:i≠y:=λz=>by
   subst z;rw[hm]at pE;cases pE
  have yb:y<Y.length:=by
   obtain⟨G,q1,_⟩:=S.all;obtain⟨_,_,_,_,_,_,z1,_⟩:=q1.at_ pE;exact (aN.mp z1).1
  have fin:∀(H1:Hp) (F1:List au) (v1:V) (d1:VS.D) (f1:List au),StR X.K M (U.set i (.dict (n5 kvs y0 (.dict [])))) Y H1 P F1->D0 (n5 kvs y0 (.dict [])) y0=cz d1->Own X.K H1 F1 (.d kt2 .i) v1 d1 f1->f1.Nodup->(∀b∈f1,b∈F1)->
    (∀(H':Hp) (a:au) (o':MuO) (d':VS.D) (f':List au),Same H1 H'->a∈f1->Own X.K (upd H' a o'.1) F1 (.d kt2 .i) v1 d' f'->(∀b,f'.count b<=f1.count b)->StR X.K M (U.set i (.dict (n4 (n5 kvs y0 (.dict [])) y0 d'))) Y (upd H' a o'.1) P F1)->
    (b8V (b1p (tOp (a3Z X xn) tj (b3V y))) (b6G tt b1h) b1h) {D with nx:=(b6G (b6f X (b3V y) Du tv) tr) D} (Y.set y (cz v1)) H1:=by
   intro H1 F1 v1 d1 f1 S1 rX ow kc sJ cl;have S2:=S1.ded pE (cz v1);show tj (Y.set y (cz v1)) H1 _;refine qj _ _ H1 P F1 j0 _ S2.toE sG λjv H2 e2 r2=>⟨v1,eD yb,?_⟩
   rw[rX]at mq;obtain⟨a1,vo,vN,HU,Gm,Gy,Gx,Ib,Gq,Ia,tR,EO⟩:=(ow.grow e2).dict;subst Gm;subst Gx;have jL:(if (m9 kt2 j0&&decide (((vo.map (·.1)).zip vN).length<1000000))=rp then
      if w6 ((vo.map (·.1)).zip vN) j0 then (fr (U.set i (.dict (n5 kvs y0 (.dict []))))).bind λd=>cz (Out.rt d)
      else (fv (U.set i (.dict (n5 kvs y0 (.dict []))))).bind λd=>cz (Out.nx ((U.set i (.dict (n5 kvs y0 (.dict [])))).set i (.dict (n4 (n5 kvs y0 (.dict [])) y0 (.dict (n4 ((vo.map (·.1)).zip vN) j0 d))))))
     else p4)=cz o1:=mq
   by_cases c2:(m9 kt2 j0&&decide (((vo.map (·.1)).zip vN).length<1000000))=rp
   ·rw[aC c2]at jL;rw[ar]at c2;have S3:=S2.grow e2;refine⟨a1,vo,kt2,j0,rfl,Gy,keysAt Gq c2.1 r2.den,_,rfl,?_⟩;rw[rR,<-w8 tR];cases CB:w6 ((vo.map (·.1)).zip vN) j0 with
    |true=>
     rw[CB,aC rfl]at jL;obtain⟨dr,Fs,vm⟩:=bnd jL;cases vm
     have:o=.rt dr:=(aK g1).symm;subst this;rw[aC rfl];exact qt _ _ _ H2 P F1 (.rt dr) S3 (show (fr _).bind _=_ by rw[Fs];rfl) kk
    |false=>
     rw[CB]at jL;simp only[bF,dw]at jL ⊢;obtain⟨d0,Fv,vm⟩:=bnd jL;cases vm
     show tv (Y.set y (cz (.ref a1))) H2 _;refine qv _ _ H2 P F1 d0 _ S3.toE Fv λvv H3 e3 r3=>⟨.ref a1,eD yb,DD _ _ H3 P F1 j0 _ (S3.grow e3).toE sG λBA H4 e4 r4=>?_⟩
     have S4:=S3.grow (e3.trans e4);obtain⟨xG,DK,_⟩:=r3;obtain⟨rfl,im,dv⟩:=V8 DK;have DL:Own X.K H4 F1 .i vv d0 []:=by
      simp only[Own];exact⟨trivial,im,dv.up (B7 e4)⟩
     have Fb:Den X.K (cut H4 F1) BA j0:=r4.den.imm_out S4.lst j0 (V5 _ (u9 c2.1).1);obtain⟨fS,z1,z2,z3,z4,f',o',Aq⟩:=b2D (fv:=[]) (ow.grow (e2.trans (e3.trans e4))) sJ (by simpa using kc) (u9 c2.1) Fb DL;refine⟨a1,fS,kt2,j0,rfl,z1,keysAt z2 c2.1 r4.den,by rw[z3];exact fZ (aR c2.2) (by rw[cJ];decide),?_⟩;have S5:=(cl H4 a1 ⟨c6 a1 (Q7 fS j0 BA vv),trivial⟩ _ f' (e2.trans (e3.trans e4)) z4 o' λb=>by have:=Aq b;simpa using this).ded pE (cz (.ref a1));refine qr D _ _ _ P F1 o S5 ?_ kk;have g2:g ((U.set i (.dict (n5 kvs y0 (.dict [])))).set i (.dict (n4 (n5 kvs y0 (.dict [])) y0 (.dict (n4 ((vo.map (·.1)).zip vN) j0 d0)))))=cz o:=g1;rw[lH]at g2;exact g2
   ·rw[aI c2]at jL;cases jL
  refine⟨.ref a,ha,⟨a,es,rfl,hH⟩,qk U Y H P F y0 _ S.toE Ef λkv H1 w1 r1=>λz hz=>?_⟩;have w2:Same H1 (upd H1 z (c6 z [])):=j6 hz _;have S2:=S.grow (w1.trans w2);have sR:Den X.K (upd H1 z (c6 z [])) kv y0:=r1.den.up w2;have wG:C2 y0=rp:=(u9 c.1).1;have Ca:∀{fS:List (VS.D×V×V)} {iY:List VS.D},U.getD i .none=.dict ((fS.map (·.1)).zip iY)->iY.length=fS.length->kvs=(fS.map (·.1)).zip iY/\fS.length<aV:=λ{fS iY} hq hl=>by
   rw[hU]at hq
   injection hq with hq
   refine⟨hq,?_⟩;have e3:((fS.map (·.1)).zip iY).length=fS.length:=by rw[dS,ag,hl,jZ]
   rw[<-e3,<-hq];exact fZ (aR c.2) (by rw[cJ];decide)
  cases hK:w6 kvs y0 with
  |true=>
   have sP:n5 kvs y0 (.dict [])=kvs:=by unfold n5;rw[hK];rfl
   have eU:U.set i (.dict kvs)=U:=set_same (by rw[<-hU,aB,ai mX];rfl);obtain⟨a0,fS,iY,t1,t2,t3,t4,t5,t6,t7⟩:=S2.dval (k:=y0) hm (u9 c.1);rw[ha]at t1;cases t1
   obtain⟨ek,hsz⟩:=Ca t3 t4;refine⟨a,fS,kt,y0,kv,.ref z,rfl,rfl,t2,keysAt t5 c.1 sR,hsz,λhf=>?_,λe he gu=>?_⟩
   ·rw[ek,w8 t4,hf]at hK;cases hK
   ·obtain⟨d1,f1,x1,x2,x3,x4,x5⟩:=t7 e he gu;refine fin _ F e.2.2 d1 f1 (by rw[sP,eU];exact S2) (by rw[sP,ek];exact x1) x2 x3 x4 λH' a' o' d' f' ud mK xF AH=>?_
    rw[sP,ek];exact x5 H' a' o' d' f' ud mK xF AH
  |false=>
   have oz:Own X.K (upd H1 z (c6 z [])) ([z]++F) (.d kt2 .i) (.ref z) (.dict []) [z]:=by
    simp only[Own];exact⟨z,[],[],[],rfl,g9,rfl,rfl,⟨bJ,λe he=>(nomatch he)⟩,l7⟩
   have P1:=(S.grow w1).pend.new w2 oz (by simp) λb hb=>by rw[ak.mp hb];exact hz
   have sP:n5 kvs y0 (.dict [])=kvs++[(y0,.dict [])]:=by unfold n5;rw[hK];rfl
   obtain⟨a0,fS,iY,xG,t1,t2,t3,t4,t5,t6,t7,t8,t9,Dv⟩:=P1.dnew (k:=y0) (kv:=kv) hm (u9 c.1) sR;rw[ha]at t1;cases t1
   obtain⟨ek,hsz⟩:=Ca t3 t4;have hE:s9 fS y0=xn:=by rw[<-w8 t4,<-ek];exact hK
   refine⟨a,fS,kt,y0,kv,.ref z,rfl,rfl,t2,keysAt t5 c.1 sR,hsz,λhf=>?_,λe he gu=>?_⟩
   ·obtain⟨z',_,_,kN,ez,zz,_,Gw,_⟩:=t7.dict;cases ez
    have BB:z∈xG:=by rw[Gw];exact av
    have Eb:z≠a:=(t9 z BB).2;have oY:a∈[z]++F:=by
     obtain⟨_,_,PS⟩:=P1;have:=PS.lst;obtain⟨v0,f0,ud,mK,xF⟩:=S.toE.get hm;rw[ha]at ud;cases ud
     obtain⟨a9,_,_,_,e9,_,_,f9,_⟩:=mK.dict;cases e9
     exact ax _ (xF a (by rw[f9];exact av))
    have key:=Dv hf;have wj:Own X.K (upd (upd H1 z (c6 z [])) a (c6 a (fS++[(y0,kv,.ref z)]))) ([z]++F) (.d kt2 .i) (.ref z) (.dict []) xG:=t7.frame (K0 oY _) _ λb hb=>f7 (t9 b hb).2
    have tN:upd (upd (upd H1 z (c6 z [])) a (c6 a (fS++[(y0,kv,.ref z)]))) z (c6 z [])=upd (upd H1 z (c6 z [])) a (c6 a (fS++[(y0,kv,.ref z)])):=b2E (by rw[f7 Eb,g9]);refine fin _ ([z]++F) (.ref z) (.dict []) xG ?_ (by rw[sP];exact a4E wG hK) wj t8 (λb hb=>(t9 b hb).1) λH' a' o' d' f' ud mK xF AH=>?_
    ·have:=key _ z ⟨c6 z [],trivial⟩ (.dict []) xG (Same.refl _) BB (by rw[tN];exact wj) λb=>ay _
     rw[tN,<-ek,<-sP]at this;exact this
    ·rw[sP,a8h wG hK,ek];exact key H' a' o' d' f' ud mK xF AH
   ·exact absurd ((KeysAt.eqv (keysAt t5 c.1 sR) he).mpr gu) (by
     unfold s9 at hE;rw[cI]at hE;exact hE e he)
 ·rw[aI c]at mq;cases mq
end
def ItV(a:au)(es:List (D×V×V)):It:=
 ⟨λi H=>H a=cz (c6 a es)/\i<es.length,λi H x H'=>H'=H/\∃e,es[i]?=cz e/\x=e.2.2,λi H=>H a=cz (c6 a es)/\es.length<=i⟩
def b0R(a it:au)(es:List (D×V×V))(hk:z8 es):Turn P w K tg (ItV a es) [it] it (λi h=>h.IsValIter it a i es.length es.length) where
 mem:=by simp
 obj:=λi h st b hb=>by
  cases ak.mp hb
  obtain⟨o,e,c,d⟩:=st;exact⟨o,e,λv z=>by rw[d]at z;cases z⟩
 keep:=λi h h' st k=>let⟨o,e,r⟩:=st;⟨o,k it (by simp) o e,r⟩
 item:=by
  intro X hP hw hK hc i pins s Y H E I hf st hg;subst hP hw hK;obtain⟨hH,hi⟩:=hg;obtain⟨kvs,kC,h0,hp,hlen⟩:=F5 I hH hk;have hx:es[i]?=cz es[i]:=ai hi;obtain⟨⟨n,v⟩,z_,g⟩:=C0 hp hx;obtain⟨f0,f1,f2,f3,f4,f5⟩:=hf it (by simp);rw[<-hlen]at st kC;refine wpAny_pyNext_values_item (knd:=eU X.prog X.w) st kC z_ λh' cF sb=>?_
  have I1:Inv X pins Y H {s with heap:=h'}:=I.turned (t':=s.toks) (λb o hb e=>(sb.2 b hb).trans e) f0 f1 f3 f4 f5;rw[hlen]at cF;obtain⟨o,e,c,d⟩:=id cF;exact⟨v,rfl,a6i (s:={s with heap:=h'}) e c d (by decide) ⟨es[i].2.2,H,I1,g.2.2,⟨rfl,es[i],hx,rfl⟩,cF,λb hb=>(hf b hb).1⟩⟩
 done:=by
  intro X hP hw hK hc i pins s Y H E I hf st hg;subst hP hw hK;obtain⟨hH,hi⟩:=hg;obtain⟨kvs,kC,h0,hp,hlen⟩:=F5 I hH hk;obtain⟨f0,f1,f2,f3,f4,f5⟩:=hf it (by simp);rw[<-hlen]at st kC;exact wpAny_pyNext_values_end (knd:=eU X.prog X.w) (I.ok.hd hc) st kC (gG (by lia)) λh' eb=>⟨rfl,I.turned (t':=s.toks) (λb o hb e=>eb b o hb e) f0 f1 f3 f4 f5⟩
 self:=λ_ _ _ _ _ st h=>wpAny_pyIter_valiter st h
section
variable {X:Cx}{M:List Md}{tg o:Expr}{fa:EvE}{ca:Cat}{apos cM:fQ}
def c1q(to:TE):TI:=λY H R=>to Y H λx H1=>∃p es,x=.ref p/\H1 p=cz (c6 p es)/\z8 es/\R (ItV p es) H1
def b5n(ho:PE X o to)(fx:dC o "values" X.env (cG o X.env)=cG o X.env:=by rfl)(fw:(apos.endLine==cM.line)=rp:=by rfl):PI X tg (.Call (.Attribute o "values" apos) [] [] cM) (c1q to):=by
 intro pins s Y H R I h;refine je fx fw (L2.thn (ho pins s Y H _ I h) λv s1 ⟨x,H1,I1,r1,p,es,ex,hH,hk,q1⟩=>?_);subst ex;obtain rfl:v=be p:=r1;obtain⟨kvs,kC,h0,hp,hlen⟩:=F5 I1 hH hk;refine⟨"dict","dict.values",iK,ig,sU,j7 I1 hH,L3 I1 hH,fR rfl (jO ?_)⟩;refine GJ ig (j7 I1 hH) se (rL _) (meets_dict_values (eU X.prog X.w) p h0) ⟨⟨kvs,kC.dictOf⟩,?_⟩;refine wpAny_pyIter_values (knd:=eU X.prog X.w) ⟨_,aL _ rfl,rfl,rfl⟩ (kC.at λ_ e=>af _ e) ?_;have hz:(s1.heap.push {cls:=.type "dict_values",data:=.fields #[.ref p]}).objs.size=s1.heap.objs.size+1:=ip ..;refine⟨_,[_],_,_,H1,rfl,I1.kept (t':=s1.toks) λb o e=>af _ (af _ e),b0R p _ es hk,⟨_,aL _ rfl,rfl,by rw[hlen];rfl⟩,λb hb=>?_,q1⟩;have e:=ak.mp hb;have nU:s1.heap.objs.size<=b:=by rw[e,hz];exact jB _
 exact I1.fpOk nU (I1.hok.fresh nU)
def a8s:Walks (ItV p es) (λH=>H p=cz (c6 p es)) (es.map (·.2.2)) where
 go:=λi H h hi=>⟨h,by simpa using hi⟩
 stop:=λi H h hi=>⟨h,by simpa using hi⟩
 yld:=λi H x H' h hi y=>by
  obtain⟨e,r,hr,rfl⟩:=y;exact⟨e,by rw[aZ,hr];rfl⟩
noncomputable def iVa(a:EvE):EvA:=λU=>(a U).bind λd=>match d with
 |.dict kvs=>if keysOk xn kvs then cz (kvs.map (·.2)) else p4
 |_=>p4
def b2Z(h:PX X M o fa ca)(hc:frozen ca:=by trivial)(fx:dC o "values" X.env (cG o X.env)=cG o X.env:=by rfl)(fw:(apos.endLine==cM.line)=rp:=by rfl):PIX X M tg (.Call (.Attribute o "values" apos) [] [] cM) (iVa fa):=by
 obtain⟨t,p,q⟩:=h.out;refine⟨_,b5n p fx fw,λU Y H P F ds R S hf k=>?_⟩;obtain⟨d,h1,h2⟩:=bnd hf;cases d with
 |dict kvs=>
  have jL:(if keysOk xn kvs then cz (kvs.map (·.2)) else p4)=cz ds:=h2;by_cases c:keysOk xn kvs=rp
  ·rw[aC c]at jL;cases jL
   refine q U Y H P F _ _ S h1 λv H1 e1 r1=>?_
   obtain⟨aa,es,rfl,k1,k2⟩:=(D5 hc r1).dict_inv;exact⟨aa,es,rfl,i4 _ _ k1,a2c k2 c,k _ _ _ H1 e1 a8s (λH2 e2=>e2 _ _ k1) k2.vals⟩
  ·rw[aI c]at jL;cases jL
 |_=>cases h2
end
noncomputable def eIm(f:EvE):EvE:=λU=>(f U).bind V9
section
variable {X:Cx}{M:List Md}{e:Expr}{f:EvE}{c:Cat}
def b8j(h:PX X M e f c):PX X M e (eIm f) (.new .i):=by
 obtain⟨t,p,q⟩:=h.out;refine .mk ⟨t,p,λU Y H P F d Q S hf k=>?_⟩;obtain⟨x,h1,h2⟩:=bnd hf;obtain⟨rfl,hi⟩:=Q3 h2;exact q U Y H P F _ Q S h1 λv H' e r=>k v H' e (G9 hi r.den (S.lst' e))
end
section
variable {X:Cx}{M:List Md}{a:Expr}{fa:EvE}{ca:Cat}{pos p:fQ}
def call_listK(hc:X.calm=rp):CallR X (.type "list") (λxs H Q=>∃p es,xs=[.ref p]/\H p=cz (c6 p es)/\∀l,H l=p4->Q (.ref l) (upd H l (.lst (es.map (·.2.1))))):=by
 intro pins s Y H xs us Q I rv h;obtain⟨p,es,rfl,hH,q⟩:=h;obtain⟨u,rfl,rx⟩:=vals1 rv;cases (show u=be p from rx)
 obtain⟨h0,hl,_,o,ents,ep,r1,r2,r3,hp,_⟩:=a1s I hH;have hlen:=cS hp;have hz:ents.size=es.length:=by rw[hlen,aD]
 refine W.kdl_call (a8Z (ep:=ep) h0) (I.ok.hd hc) ⟨o,r1,r2,r3⟩ (by lia) λg1 tq ac cq keep ho qN=>?_
 refine⟨.ref s.heap.objs.size,_,I.laid (t':=tq) keep (ay _) (show ObjOk X.prog X.w _ g1 _ (.lst (es.map (·.2.1))) from⟨by rw[ag];exact hl,ac.toList,cq,?_,by rw[jE];exact ho⟩),rfl,q _ (I.hok.fresh (ay _))⟩;refine U4 (by rw[ag];have z1:=qN.1;have z2:ac.toList.length=ac.size:=aD;lia) λi x u h1 h2=>?_
 rw[bE]at h2;obtain⟨e',h3,rfl⟩:=qN.2 i u h2;rw[aZ]at h1;obtain⟨e,he,rfl⟩:=eA.mp h1;obtain⟨kv,g3,g4⟩:=C0 hp he;rw[bE,h3]at g3;cases g3
 exact g4.2.1
noncomputable def a8t(a:EvE):EvE:=λU=>(a U).bind λd=>match d with
 |.dict kvs=>if e7 (kvs.map (·.1)) then cz (.list (kvs.map (·.1))) else p4
 |_=>p4
def b3a(hc:X.calm=rp)(hm:X.mg "list"=p4)(ha:PX X M a fa ca)(hg:Gl X "list":=by rfl)(he:ao [a] X.env=(xn,cG a X.env)::ao [] X.env:=by rfl)(gh:(cC pos (ao [] X.env)).any (·.1)=xn:=by rfl) :
  PX X M (.Call (.Name "list" p) [a] [] pos) (a8t fa) (.new (.l .i)):=by
 obtain⟨ta,pa,qa⟩:=ha.out;refine .mk ⟨_,C1 (call_listK hc) hg hm PyProof.Rows.Boot.«list» (k9 pa o7 he) (by decide) (by decide) he gh,λU Y H P F d Q S hf q=>?_⟩;obtain⟨x,h1,g1⟩:=bnd hf;cases x with
 |dict kvs=>
  have g2:(if e7 (kvs.map (·.1)) then cz (dX (kvs.map (·.1))) else p4)=cz d:=g1;by_cases c:e7 (kvs.map (·.1))=rp
  ·rw[aC c]at g2;cases g2
   refine qa U Y H P F _ _ S h1 λv H1 e1 r1=>?_
   obtain⟨pp,es,rfl,k1,k2⟩:=r1.den.dict_inv;exact⟨pp,es,rfl,k1,λz hz=>q _ _ (e1.trans (j6 hz _)) (J1 (O9 k2) c e1 hz (S.lst' e1))⟩
  ·rw[aI c]at g2;cases g2
 |_=>cases g1
def b3b(hm:X.mg "len"=p4)(ha:PX X M a fa ca)(hg:Gl X "len":=by rfl)(he:ao [a] X.env=(xn,cG a X.env)::ao [] X.env:=by rfl)(gh:(cC pos (ao [] X.env)).any (·.1)=xn:=by rfl) :
  PX X M (.Call (.Name "len" p) [a] [] pos) (eCl b2g (b8 fa i5)) (.new .i):=by
 obtain⟨ta,pa,qa⟩:=ha.out;refine .mk ⟨_,Q0 b0f hg hm PySem.boot_len (k9 pa o7 he) (by decide) (by decide) he gh,λU Y H P F d Q S hf q=>?_⟩;obtain⟨xs,h1,h2⟩:=bnd hf;obtain⟨x,h3,h4⟩:=bnd h1;obtain⟨mi,h5,h6⟩:=bnd h4;cases h5
 cases h6
 have hx:∃kvs,x=.dict kvs/\d=.int kvs.length:=by
  cases x with
  |dict kvs=>cases h2;exact⟨kvs,rfl,rfl⟩
  |_=>cases h2
 obtain⟨kvs,rfl,rfl⟩:=hx;refine qa U Y H P F _ _ S h3 λv H1 e1 r1=>?_
 obtain⟨pp,es,rfl,k1,k2⟩:=r1.den.dict_inv;have hlen:kvs.length=es.length:=by have:=d_ gA k2.keys;simpa using this.symm
 refine⟨pp,es,rfl,k1,?_⟩;rw[<-hlen];exact q _ _ e1 (G9 a2v den_int (S.lst' e1))
end
section
variable {X:Cx}{M:List Md}{t u w:Ty}{ML:List Md}{k v:Expr}{fk fv:EvE}{ck:Cat}{kt:Bool}{x y z:bI}{px py pz iP pos gB:fQ}
def b5o(i jy id:Nat)(hu:X.A.units+64<du)(hc:X.calm=rp)(hp:kZ (aT X.prog X.w) X.A X.env X.xe)(xC:X.N.Nodup)(hk:PX X ((M.map VS.frz).set jy (.own .f)) k fk ck)(hv:PMX X M v fv u M)(iH:i≠jy:=by decide)(Fe:i≠id:=by decide)
  (hm:M[i]?=cz (.own (.l t)):=by rfl) (pE:M[jy]?=cz .dead:=by rfl) (vG:M[id]?=cz (.own (.d kt u)):=by rfl) (hN:X.N[i]?=cz x:=by rfl) (t_:X.N[jy]?=cz y:=by rfl) (FU:X.N[id]?=cz z:=by rfl)
  (zy:Vis X.env.scope x:=by first|exact cg rfl|exact bP (cg rfl)|exact bP (bP rfl)) (sL:(x==("__debug__":bI))=xn:=by decide) (xq:(x==("__classdict__":bI))=xn:=by decide)
  (Ek:Vis X.env.scope z:=by first|exact cg rfl|exact bP (cg rfl)|exact bP (bP rfl)) (Fq:(z==("__debug__":bI))=xn:=by decide) (Fw:(z==("__classdict__":bI))=xn:=by decide)
  (wX:Loc X.env.scope y:=by first|exact cg rfl|exact bP rfl) (uZ:X.fn y=rp\/X.env.scope.names.lookup y=cz .local:=by first|exact .inl rfl|exact .inr rfl) (hf:∀z,dF (.Name x px) X.env z=pure z:=by intro _;rfl) (hs:eX v (cz (.Subscript (.Name z pz) k iP)) gB.line X.env=pure xn:=by rfl) :
  PSX X w ML M (.For (.Name y py) (.Name x px) [.Assign [.Subscript (.Name z pz) k iP] v gB] [] pos) (F8 (iL (b7 i)) (u8 jy) (z7 id kt fk fv)) M:=by
 obtain⟨tv,pv,qv⟩:=hv;obtain⟨tk,pk,qk⟩:=hk.out;refine .mk ⟨_,a2J hp hc (a5i (x9 hN zy sL xq)) (A9 xC t_ wX uZ) (a5h (a5E hu (x9 FU Ek Fq Fw) pk pv hs)) hf,λE U Y H P F o S hg kk=>?_⟩;obtain⟨ds,h1,g1⟩:=bnd (show (iL (b7 i) U).bind _=cz o from hg);have hU:U.getD i .none=.list ds:=J9 (show asL (U.getD i .none)=cz ds from h1);obtain⟨v0,f0,e0,o0,_⟩:=S.toE.get hm;obtain⟨a,xs,fs,pre,post,rfl,r2,_,nJ,_⟩:=o0.path [] (show dAt (.l t) (U.getD i .none) []=cz (.l t,.list ds) by rw[hU];rfl) (show wk H v0 [] v0 from rfl);have qK:xs.length=ds.length:=nJ.length;refine⟨.ref a,e0,a,rfl,⟨xs,SqL.of r2⟩,?_⟩;refine⟨λn q Y' H'=>q=xs.length-n/\n<=xs.length/\∃U' F',StR X.K M U' Y' H' P F'/\U'.getD i .none=.list ds/\Y'[i]?=cz (cz (.ref a))/\H' a=cz (.lst xs)/\Q5 (u8 jy) (z7 id kt fk fv) (ds.drop n) U'=cz o,⟨xs.length,by simp,cj _,U,F,S,hU,e0,r2,g1⟩,?_⟩;rintro n q Y' H' ⟨rfl,hn,U',F',S',pq,zu,ha,hfl⟩;by_cases gX:n<xs.length
 ·refine .inr ⟨E2.go n H' (SqL.of ha) gX,λY2 H2=>∃U2 F2,StR X.K M U2 Y2 H2 P F2/\U2.getD i .none=.list ds/\Y2[i]?=cz (cz (.ref a))/\H2 a=cz (.lst xs)/\Q5 (u8 jy) (z7 id kt fk fv) (ds.drop (n+1)) U2=cz o,λY2 H2 z=>⟨xs.length-(n+1),by lia,rfl,gX,z⟩,λw0 H2 hy=>?_⟩;obtain⟨rfl,pA⟩:=E2.yld n H' w0 H2 (SqL.of ha) gX hy;have rm:n<ds.length:=by lia
  rw[cB rm]at hfl;obtain⟨o1,hg1,g3⟩:=bnd (show (z7 id kt fk fv (U'.set jy ds[n])).bind _=cz o from hfl);have S2:=S'.kill pE ds[n] (cz w0);rw[set_same pE]at S2;have sF:jy<Y'.length:=by
   obtain⟨G,q1,_⟩:=S'.all;have:=q1.len.2;have h3:jy<M.length:=(aN.mp pE).1;lia
  have qo:(U'.set jy ds[n]).getD i .none=.list ds:=by rw[aB,dg (dN iH),<-aB];exact pq
  have wA:(Y'.set jy (cz w0))[i]?=cz (cz (.ref a)):=by rw[dg (dN iH)];exact zu
  obtain⟨d,h3,g4⟩:=bnd hg1;obtain⟨kd,h4,g5⟩:=bnd g4;refine qv [] [] [] (U'.set jy ds[n]) (Y'.set jy (cz w0)) H2 P F' d _ S2.pend h3 λv1 H3 F3 e3 S3=>?_
  have Ay:=e3 _ _ ha;obtain⟨ad,es,dd,fd,Cs,hH,wB,_⟩:=S3.e.dict vG;rw[wB]at g5;have g6:(if (m9 kt kd&&decide (((es.map (·.1)).zip dd).length<1000000))=rp then cz (Out.nx ((U'.set jy ds[n]).set id (.dict (n4 ((es.map (·.1)).zip dd) kd d)))) else p4)=cz o1:=g5;by_cases c:(m9 kt kd&&decide (((es.map (·.1)).zip dd).length<1000000))=rp
  ·rw[aC c]at g6;cases g6
   rw[ar]at c;obtain⟨v',f',e',o',_⟩:=S3.e.get hm;rw[wA]at e';cases e'
   rw[qo]at o';obtain⟨fy,oy,_⟩:=a3e (p:=[n]) (ty:=t) (d':=ds[n]) o' (by show (ds[n]?).bind (λd=>dAt t d [])=_;rw[ai rm];rfl) ⟨a,xs,w0,rfl,.inl Ay,pA,rfl⟩;obtain⟨G,q1,q2⟩:=S3.e.frz.all;have wU:(M.map VS.frz)[jy]?=cz .dead:=by rw[aZ,pE];rfl
   obtain⟨d0,o2,f2,pr,po,z1,z2,z3,z4,z5⟩:=q1.at_ wU;have q3:=z5 H3 [] (.own .f) ds[n] (cz w0) [] (λ_ _=>rfl) (Same.refl _) ⟨w0,rfl,by simp only[Own];exact⟨trivial,oy.den.up λb ob hb=>j5 (by simp) hb⟩⟩;rw[lH,lH]at q3;have SE:StE X.K ((M.map VS.frz).set jy (.own .f)) (U'.set jy ds[n]) (Y'.set jy (cz w0)) H3 P []:=⟨⟨_,q3,λb hb=>q2 b (by rw[z4];simp only[az,cA]at hb ⊢;exact hb.elim .inl λz=>.inr (.inr z))⟩,λb hb=>(nomatch hb),S3.e.frz.prot⟩;refine⟨_,Cs,qk _ _ H3 P [] kd _ SE h4 λkv H4 e4 r4=>?_⟩;obtain⟨a',fS,iY,kN,tZ,yB,qV,hK,_,qz,_,S5⟩:=(S3.grow e4).dput vG (u9 c.1) r4.den;rw[Cs]at tZ;cases tZ
   rw[wB]at qV
   injection qV with qV
   have gN:a≠ad:=λz=>by
    subst z;have:=e4 _ _ Ay;rw[yB]at this;cases this
   refine⟨ad,fS,kt,kd,rfl,yB,keysAt hK c.1 r4.den,?_,_,F3,by rw[qV];exact S5,?_,wA,by rw[f7 gN];exact e4 _ _ Ay,g3⟩
   ·have hlen:((fS.map (·.1)).zip iY).length=fS.length:=by rw[dS,ag,qz,jZ]
    rw[<-hlen,<-qV];exact fZ (aR c.2) (by rw[cJ];decide)
   ·rw[aB,dg (dN Fe),<-aB];exact qo
  ·rw[aI c]at g6;cases g6
 ·have e:n=xs.length:=by lia
  subst e;rw[qK,jr]at hfl;have:o=.nx U':=(aK hfl).symm;subst this;exact .inl ⟨E2.stop _ H' (SqL.of ha) (ay _),kk Y' H' F' S'⟩
end
end VS
namespace PySem
section
variable {prog:bA}{w:bX}{A:bL}{E:aj->aq->Prop}{s:aq}{r:au}{b:Int}{t u v:Tok}{n:Nat}
def a7d(hh:A.handled=p4)(hr:IsRange s.heap r 0 b 1 t u v)(mD:pN 0 b 1=rp)(hn:fF 0 b 1=n)(hlen:n<=2^24)
  (hQ:∀(h':cf) (tk:Nat) (acc:Array aj),(∀b o,s.heap.get? b=cz o->h'.get? b=cz o)->s.heap.objs.size<=h'.objs.size->rQ (λi v=>∃t,v=.int (0+i*1) t) acc n->Q acc.toList {s with heap:=h',toks:=tk}):aG (aT prog w) A (collect (.ref r)) Q E s:=by
 unfold collect;refine ab (vV (eR nW ?_));rw[dm F.plain_proto_collect _];show aG _ A.in1 (newList [] >>= λl=>again (.builtin "list.__iadd__" ⟨[l,.ref r],[]⟩)) _ _ s;refine ab (eL ?_);refine ah ⟨gx F.plain_list_iadd _,eR pY ?_⟩;rw[dm F.plain_list_iadd _];show aG _ A.in1 (eE (.ref s.heap.objs.size) (.ref r) (.ref s.heap.objs.size)) _ _ {s with heap:=s.heap.push {cls:=.type "list",data:=.seq #[]}};refine wpAny_extend_range (R:=λr s'=>match r with
  |Except.ok (Flow.ret v)=>aG (aT prog w) A (match v with|be a=>load a >>= λu=>(match u.data with|Data.seq xs _=>pure xs.toList|_=>tF "internal:collect")|_=>tF "internal:collect") Q E s'
  |Except.ok _=>False
  |Except.error e=>E e s') (s:={s with heap:=s.heap.push {cls:=.type "list",data:=.seq #[]}}) hh (af _ hr) mD hn hlen s.heap.objs.size (.ref s.heap.objs.size) 0 (aL _ rfl) λh' tk AQ c' hk nV jc=>?_
 show aG _ A (load s.heap.objs.size >>= _) _ _ _;refine ab (vX nV ?_);exact ah (hQ h' tk AQ (λb o e=>hk b o (bK (aM e)) (af _ e)) (eB (aM nV)) jc)
def a3w(hh:A.handled=p4)(hr:IsRange s.heap r 0 b 1 t u v)(mD:pN 0 b 1=rp)(hn:fF 0 b 1=n)(hlen:n<=2^24)
  (h:∀(h':cf) (tk:Nat) (acc:Array aj),(∀b o,s.heap.get? b=cz o->h'.get? b=cz o)->s.heap.objs.size<=h'.objs.size->rQ (λi v=>∃t,v=.int (0+i*1) t) acc n->Q₁ (.ref h'.objs.size) {s with heap:=h'.push {cls:=.type "tuple",data:=.seq acc},toks:=tk}) :
  iZ (aT prog w) A (.call (.builtin "tuple.__new__") ⟨[.type "tuple",.ref r],[]⟩) (wants Q₁ E) s:=by
 refine codeAny_of_tree ?_;show aG _ A.in1 (do checkBuiltinCall "tuple.__new__" ⟨[.type "tuple",.ref r],[]⟩;again (.builtin "tuple.__new__" ⟨[.type "tuple",.ref r],[]⟩)) _ _ s;refine ab (wpAny_of_eq (F.newCall_tuple_1 _) (ah ⟨gx F.plain_tuple_new _,eR F.entry_tuple_new ?_⟩));rw[dm F.plain_tuple_new _];have jT:=sub_tuple_self;have Cg:=init_tuple_lookup;have HE:=madeHere_tuple;have rC:s.TypeIs (.ref r) "range":=⟨_,hr,rfl⟩
 wp_walk using jw rC,a7d (A:=A.in1) (show A.in1.handled=p4 from hh) hr mD hn hlen
 intro h' tk acc hk hz jc;show aG _ _ (AZ acc.toList.toArray >>= λv=>ret v) _ _ _;unfold AZ;have e:acc.toList.toArray=acc:=by simp
 rw[e];exact ab (eL (ah (h h' tk acc hk hz jc)) (by show acc.size<=aV;rw[jc.1,cJ];exact hlen))
def a3x(hh:A.handled=p4)(hr:IsRange s.heap r 0 b 1 t u v)(mD:pN 0 b 1=rp)(hn:fF 0 b 1=n)(hlen:n<=2^24)
  (hQ:∀(h':cf) (tk:Nat) (acc:Array aj),(∀b o,s.heap.get? b=cz o->h'.get? b=cz o)->s.heap.objs.size<=h'.objs.size->rQ (λi v=>∃t,v=.int (0+i*1) t) acc n->Q (.ref h'.objs.size) {s with heap:=h'.push {cls:=.type "tuple",data:=.seq acc},toks:=tk}) :
  aG (aT prog w) A (call (.type "tuple") [.ref r]) Q E s:=by
 refine oH (Q₁:=λobj s₁=>s₁.TypeIs obj "tuple"/\Q obj s₁) xS (F.typeCall_tuple_1 _) F.entry_object_init
  (a3w hh hr mD hn hlen λh' tk acc hk hz jc=>⟨⟨_,aL _ rfl,rfl⟩,hQ h' tk acc hk hz jc⟩) λobj s₁ h₁=>?_
 exact⟨h₁.1,F.args_object_init_2 obj _,object_init_meets xS.init.lookup xS.made (by decide) prog w A.in1 _ s₁ ⟨h₁.1,rfl,h₁.2⟩⟩
end
end PySem
namespace VS
open PySem PySem.Spec L2
section
variable {X:Cx}{M ML:List Md}{a:Expr}{fa:EvE}{ca:Cat}{pos gB p p2:fQ}
def b0S(hc:X.calm=rp):CallR X (.type "tuple") (λxs H Q=>∃p j,xs=[.ref p]/\H p=cz (a6S p j)/\-(2^62)<=j/\j<=1000000/\∀l,H l=p4->Q (.ref l) (upd H l (.tup ((aU j.toNat).map λ(k:Nat)=>V.int (0+k))))):=by
 intro pins s Y H xs us Q I rv h;obtain⟨p,j,rfl,hH,h1,h2,q⟩:=h;obtain⟨u,rfl,rx⟩:=vals1 rv;cases (show u=be p from rx)
 obtain⟨t,u,v,hr⟩:=(show ObjOk X.prog X.w H s.heap p (a6S p j) from I.hok p _ hH).1;have hn:fF 0 j 1=j.toNat:=by rw[yZ];split<;>lia
 have hz:aV=16777216:=cJ;refine a3x (n:=j.toNat) (I.ok.hd hc) hr (small_one (by decide) (by decide) h1 (by lia)) hn (by lia) λh' tk acc hk hle jc=>?_
 have hv:Vals ((aU j.toNat).map λ(k:Nat)=>V.int (0+k)) acc.toList:=by
  refine U4 (by rw[ag,dB,aD];exact jc.1.symm) λi x u g1 g2=>?_
  rw[bE]at g2;obtain⟨t',rfl⟩:=jc.2 i u g2;rw[aZ]at g1;have hi:i<j.toNat:=by have:=(gW.mp g2).1;rw[jc.1]at this;exact this
  rw[ic hi]at g1;cases g1
  exact⟨t',by simp⟩
 have ea:acc=acc.toList.toArray:=by simp
 rw[ea];refine⟨.ref h'.objs.size,_,I.laid (a:=h'.objs.size) (t':=tk) (λb o e=>af _ (hk b o e)) hle (show ObjOk X.prog X.w _ _ _ (.tup ((aU j.toNat).map λ(k:Nat)=>V.int (0+k))) from⟨by rw[ag,dB];lia,acc.toList,hv,PyProof.Rows.IsTup.new _ _⟩),rfl,q _ (I.hok.fresh hle)⟩
noncomputable def b3c(a:EvE):EvE:=λU=>(a U).bind λd=>(asI d).bind λn=>if -(2^62)<=n/\n<=1000000 then cz (.tuple (B8 0 n.toNat)) else p4
def b5p(hc:X.calm=rp)(hm:X.mg "tuple"=p4)(zT:X.mg "range"=p4)(ha:PX X M a fa ca)(hg:Gl X "tuple":=by rfl)(sH:Gl X "range":=by rfl)(he:ao [a] X.env=(xn,cG a X.env)::ao [] X.env:=by rfl)(gh:(cC gB (ao [] X.env)).any (·.1)=xn:=by rfl)
  (nK:ao [.Call (.Name "range" p2) [a] [] gB] X.env=(xn,cG (.Call (.Name "range" p2) [a] [] gB) X.env)::ao [] X.env:=by rfl) (pC:(cC pos (ao [] X.env)).any (·.1)=xn:=by rfl) :
  PX X M (.Call (.Name "tuple" p) [.Call (.Name "range" p2) [a] [] gB] [] pos) (b3c fa) (.new .i):=by
 obtain⟨ta,pa,qa⟩:=ha.out;refine .mk ⟨_,C1 (b0S hc) hg hm PyProof.Rows.Boot.«tuple» (k9 (C1 a1Z sH zT um (k9 pa o7 he) (by decide) (by decide) he gh) o7 nK) (by decide) (by decide) nK pC,λU Y H P F d Q S hf q=>?_⟩;obtain⟨x,h1,g1⟩:=bnd hf;obtain⟨n,h2,g2⟩:=bnd g1;cases a0E h2
 by_cases c:-(2^62)<=n/\n<=1000000
 ·rw[aC c]at g2;cases g2
  refine qa U Y H P F _ _ S h1 λv H1 e1 r1=>⟨n,by rw[r1.den.int_inv],λz hz=>⟨z,n,rfl,g9,c.1,c.2,λl hl=>?_⟩⟩
  have e2:=e1.trans (j6 hz (a6S z n));exact q _ _ (e2.trans (j6 hl _)) (G9 (by simp only[imm];exact T9 _ _) (a0C a1l hl) (S.lst' (e2.trans (j6 hl _))))
 ·rw[aI c]at g2;cases g2
end
def b8k{K:ae}{H:Hp}{F fp:List au}{t u:Ty}{ds e:List D}{a b:au}{xs:List V}{n:Nat}(hu:u=.l t)(h:Own K H F (.l u) (.ref a) (.list ds) fp)(hn:fp.Nodup)(hx:H a=cz (.lst xs))(hj:xs[n]?=cz (.ref b))(hd:ds[n]?=cz (.list e)):a≠b:=by
 simp only[Own]at h;rcases h with⟨_,hi,_⟩|⟨a',mi,fS,fs,e0,h1,h2,rfl,h3⟩
 ·simp only[imm]at hi;cases hi
 ·cases h2
  cases e0
  rw[h1]at hx;cases hx
  obtain⟨v2,f,pre,post,z1,z2,rfl,_⟩:=h3.zip hd;rw[hj]at z1;cases z1
  subst hu;obtain⟨b',ys,kN,mU,kI,e,_,rfl,_,_⟩:=Own.path [] z2 rfl rfl;cases e
  intro z;subst z;exact (bB.mp hn).1 (by simp)
section
variable {X:Cx}{M:List Md}{t:Ty}{e:Expr}{fe:EvE}{x y:bI}{px py p2 pos apos cM gB:fQ}
def b5q{w:Ty}{ML:List Md}(i:Nat){jy:Nat}(hi:∀U x,fe (U.set i x)=fe U)(hc:X.calm=rp)(hp:kZ (aT X.prog X.w) X.A X.env X.xe)(xC:X.N.Nodup)(he:PX X M e fe (.new t))(iH:i≠jy:=by decide)(hm:M[i]?=cz (.own (.l (.l t))):=by rfl)(pE:M[jy]?=cz .dead:=by rfl)(hN:X.N[i]?=cz x:=by rfl)(t_:X.N[jy]?=cz y:=by rfl)
  (hv:Vis X.env.scope x:=by first|exact cg rfl|exact bP (cg rfl)|exact bP (bP rfl)) (hd:(x==("__debug__":bI))=xn:=by decide) (jg:(x==("__classdict__":bI))=xn:=by decide)
  (yc:Vis X.env.scope y:=by first|exact cg rfl|exact bP (cg rfl)|exact bP (bP rfl)) (vI:(y==("__debug__":bI))=xn:=by decide) (As:(y==("__classdict__":bI))=xn:=by decide)
  (wX:Loc X.env.scope y:=by first|exact cg rfl|exact bP rfl) (uZ:X.fn y=rp\/X.env.scope.names.lookup y=cz .local:=by first|exact .inl rfl|exact .inr rfl)
  (hf:∀z,dF (.Name x px) X.env z=pure z:=by intro _;rfl)
  (fx:dC (.Name y p2) "append" X.env (cG (.Name y p2) X.env)=cG (.Name y p2) X.env:=by rfl)
  (lC:((cC cM (ao [e] X.env)).all (λx=>!x.1)&&(oI cM (kg [] X.env)).all (λx=>x.1.isSome)
   && decide ([e].length+([]:List iE).length+(if ([]:List iE).isEmpty then 0 else 1)<30))=rp:=by rfl)
  (fw:(apos.endLine==cM.line)=rp:=by rfl) (hs:ao [e] X.env=(xn,cG e X.env)::ao [] X.env:=by rfl) (hX:(cC cM (ao [] X.env)).any (·.1)=xn:=by rfl)
  (oq:eX (.Call (.Attribute (.Name y p2) "append" apos) [e] [] cM) p4 gB.line X.env=pure xn:=by rfl) :
  PSX X w ML M (.For (.Name y py) (.Name x px) [.Expr (.Call (.Attribute (.Name y p2) "append" apos) [e] [] cM) gB] [] pos) (b4S i (b7V (b2s fe))) M:=by
 obtain⟨te,pe,qe⟩:=he.out;refine .mk ⟨_,a2J hp hc (a5i (x9 hN hv hd jg)) (A9 xC t_ wX uZ) (a5h (X1 (b1w iJ kS kP X2 (x9 t_ yc vI As) (k9 pe o7 hs) fx lC fw hs hX) oq)) hf,λE U Y H P F o S hg k=>?_⟩;obtain⟨d',h1,g1⟩:=bnd hg;cases g1
 obtain⟨v,f,h0,ow,_⟩:=S.toE.get hm;cases sM:U.getD i .none with
 |list ds=>
  rw[sM]at h1 ow;obtain⟨es,xg,hg⟩:=bnd (show (a6B (b2s fe U) ds).bind _=cz d' from h1);cases hg
  have HJ:=a6C xg;obtain⟨a,xs,fs,pre,post,rfl,r2,_,nJ,_⟩:=ow.path [] rfl rfl;have qK:xs.length=ds.length:=nJ.length;obtain⟨d0,qo⟩:=S.inb hm;have mX:i<U.length:=(aN.mp qo).1;refine⟨.ref a,h0,a,rfl,⟨xs,SqL.of r2⟩,?_⟩;refine⟨λn m Y' H'=>m=xs.length-n/\n<=xs.length/\∃F',StR X.K M (U.set i (.list (es.take n++ds.drop n))) Y' H' P F'/\Y'[i]?=cz (cz (.ref a))/\H' a=cz (.lst xs),⟨xs.length,by simp,cj _,F,?_,h0,r2⟩,?_⟩
  ·rw[rM,cA,List.drop_zero,<-sM,v8 qo,set_same qo];exact S
  ·rintro n m Y' H' ⟨rfl,hn,F',S',Gg,ha⟩;by_cases gX:n<xs.length
   ·refine .inr ⟨E2.go n H' (SqL.of ha) gX,λY2 H2=>∃F',StR X.K M (U.set i (.list (es.take (n+1)++ds.drop (n+1)))) Y2 H2 P F'/\Y2[i]?=cz (cz (.ref a))/\H2 a=cz (.lst xs),λY2 H2 z=>⟨xs.length-(n+1),by lia,rfl,gX,z⟩,λv H2 hy=>?_⟩;obtain⟨rfl,pA⟩:=E2.yld n H' v H2 (SqL.of ha) gX hy;have rm:n<ds.length:=by lia
    obtain⟨e1,Cn,qM⟩:=a6D xg (ai rm);obtain⟨dy,Ak⟩:=S'.inb pE;have S2:=S'.kill pE dy (cz v);rw[set_same pE,set_same Ak]at S2;have sF:jy<Y'.length:=by
     obtain⟨G,q1,_⟩:=S'.all;have:=q1.len.2;have h3:jy<M.length:=(aN.mp pE).1;lia
    have yE:(Y'.set jy (cz v))[i]?=cz (cz (.ref a)):=by rw[dg (dN iH)];exact Gg
    generalize hY:ds[n]=y0 at qM;cases y0 with
    |list ys=>
     have mo:(if ys.length<1000000 then (fe U).bind λv=>cz (dX (ys++[v])) else p4)=cz e1:=qM;by_cases hz:ys.length<1000000
     ·rw[aC hz]at mo;obtain⟨dv,h3,g3⟩:=bnd mo;cases g3
      have wV:(es.take n++ds.drop n)[n]?=cz (.list ys):=by
       rw[cY (by rw[bT];lia),bT,lR (by lia),jY,nN,oS,ai rm,hY]
      have Ci:(U.set i (.list (es.take n++ds.drop n))).getD i .none=.list (es.take n++ds.drop n):=v8 (eD mX);have xo:dAt (.l (.l t)) ((U.set i (.list (es.take n++ds.drop n))).getD i .none) [n]=cz (.l t,.list ys):=by
       rw[Ci];show ((es.take n++ds.drop n)[n]?).bind (λd=>dAt (.l t) d [])=_;rw[wV];rfl
      have hw:wk H2 (.ref a) [n] v:=⟨a,xs,v,rfl,.inl ha,pA,rfl⟩;obtain⟨v',f',e',o,_⟩:=S2.toE.get hm;rw[yE]at e';cases e'
      obtain⟨b,zs,HS,wd,tI,rfl,r3,_,_,_⟩:=o.path [n] xo hw;refine⟨.ref b,eD sF,.inl ⟨rfl,zs,SqL.of r3⟩,qe _ _ H2 P F' dv _ S2.toE (by rw[hi];exact h3) λv1 H3 e3 ⟨fp,o1,nd,fr⟩=>?_⟩;obtain⟨b',mi,e',y_,hl,S3,_⟩:=(S2.pend.new e3 o1 nd fr).put hm yE xo (b1V e3 hw);cases e'
      have gN:a≠b:=by
       obtain⟨G,q1,q2,_⟩:=(S2.grow e3).all;obtain⟨dd,oo,f,wd,tI,z1,z2,⟨v2,rfl,z3⟩,rfl,_⟩:=q1.at_ hm;rw[yE]at z2;cases z2
       rw[eD mX]at z1;cases z1
       exact b8k rfl z3 (q2.sublist ((il f tI).trans (hU wd _))) (e3 _ _ ha) pA wV
      rw[Ci,lH]at S3;have uI:(es.take n++ds.drop n).set n (.list (ys++[dv]))=es.take (n+1)++ds.drop (n+1):=by
       have Cm:n<es.length:=by lia
       rw[ai Cm]at Cn;rw[cB rm,List.set_append_right _ _ (by rw[bT];lia),bT,lR (by lia),jY,kr,iW Cm,aK Cn,bg];rfl
      rw[show a2p (.list (es.take n++ds.drop n)) [n] (.list (ys++[dv]))=.list (es.take (n+1)++ds.drop (n+1)) from d_ dX uI]at S3;refine⟨b,mi,v1,rfl,rfl,y_,?_,_,S3,yE,by rw[f7 gN];exact e3 _ _ ha⟩;rw[hl];exact fZ hz (by rw[cJ];decide)
     ·rw[aI hz]at mo;cases mo
    |_=>cases qM
   ·have e:n=xs.length:=by lia
    subst e;rw[iX (by lia),List.drop_eq_nil_of_le (by lia),bM]at S';exact .inl ⟨E2.stop _ H' (SqL.of ha) (ay _),k Y' H' F' S'⟩
 |_=>rw[sM]at h1;cases h1
end
section
open PySem.SeqAt
open PySem.AutoSeq1 (wpAny_loadPart')
open PySem.MeetsSeq PySem.MeetsSeq2 PySem.MeetsSeq3
open PyProof.Rows (IntsAre)
def a1B{items:Array aj}(a:IntsAre (items.toList.drop i) (n::ns)):∃t,items[((i:Nat):Int).toNat]?=cz (.int n t)/\IntsAre (items.toList.drop (i+1)) ns:=by
 generalize e:items.toList.drop i=L at a;cases a with
 |cons _ t a=>exact⟨t,by have h:=d_ (λl:List aj=>l[0]?) e;rw[nN]at h;simpa using h,by rw[<-List.tail_drop,e];exact a⟩
theorem a7e(l b:au)(items iS:Array aj)(n n2:Nat)(dd qP:Option au)(sl qJ:Array (Option aj)):∀(ns ms:List Int) (i:Nat),items.size=i+ns.length->iS.size=i+ms.length->IntsAre (items.toList.drop i) ns->IntsAre (iS.toList.drop i) ms->Meets (Builtin.«list.__eq__.loop» ⟨[.ref l,.ref b,fW i,fW 5],[]⟩)
   (λA R s=>s.heap.get? l=cz {cls:=.type "list",dict:=dd,data:=.seq items n,slots:=sl}/\s.heap.get? b=cz {cls:=.type "list",dict:=qP,data:=.seq iS n2,slots:=qJ}/\R (.ok (.ret (.bool !v4 ns ms))) s)
 |[],ms,i,z1,z2,a1,a2,prog,w,A,R,s,h=>by
  obtain⟨hp,g,d,tk,os⟩:=s;obtain⟨hl,hb,h⟩:=h;rw[show (!v4 [] ms)=decide (items.size≥iS.size) by cases ms<;>simp[v4,z1,z2]]at h
  wp_walk using wpAny_loadPart' hl,wpAny_loadPart' hb
  rw[show items[((i:Nat):Int).toNat]?=p4 by simp[z1]]
  wp_walk using wpAny_loadPart' hl,wpAny_loadPart' hb
  exact h
 |x::ns,[],i,z1,z2,a1,a2,prog,w,A,R,s,h=>by
  obtain⟨hp,g,d,tk,os⟩:=s;obtain⟨hl,hb,h⟩:=h;rw[show (!v4 (x::ns) [])=decide (items.size≥iS.size) by simp[v4,z1,z2]]at h;obtain⟨t,e1,_⟩:=a1B a1
  wp_walk using wpAny_loadPart' hl,wpAny_loadPart' hb
  rw[e1,show iS[((i:Nat):Int).toNat]?=p4 by simp[z2]]
  wp_walk using wpAny_loadPart' hl,wpAny_loadPart' hb
  exact h
 |x::ns,y::ms,i,z1,z2,a1,a2,prog,w,A,R,s,h=>by
  obtain⟨hp,g,d,tk,os⟩:=s;obtain⟨hl,hb,h⟩:=h;obtain⟨t,e1,a1⟩:=a1B a1;obtain⟨u,e2,a2⟩:=a1B a2;rw[ba]at z1 z2
  wp_walk using wpAny_loadPart' hl,wpAny_loadPart' hb
  rw[e1,e2];refine ab (sg ?_);rw[v4]at h;by_cases c:x=y
  ·rw[aC c]at h;rw[show (x==y)=rp by simp[c]]
   wp_walk
   rw[show ((i:Int)+1)=((i+1:Nat):Int) by push_cast;rfl];exact⟨gx xY _,eR entry_eq_loop (by
    rw[dm xY _];exact a7e l b items iS n n2 dd qP sl qJ ns ms (i+1) (by lia) (by lia) a1 a2 prog w A R _ ⟨hl,hb,h⟩)⟩
  ·rw[aI c,show (!decide (x<y))=decide (x≥y) by by_cases q:x<y<;>simp[q]<;>lia]at h;rw[show (x==y)=xn by simp[c]];have Ex:∀(E:aj->aq->Prop) (Q:aj->aq->Prop),Q (.bool (decide (x≥y))) ⟨hp,g,d,tk,os⟩->aG (aT prog w) A.in1 (richCompare .GtE (.int x t) (.int y u)) Q E ⟨hp,g,d,tk,os⟩:=λE Q h=>(PyProof.Rows.ge_int h:aG (aT prog w) A.in1 (bU .GtE (.int x t) (.int y u)) Q E _)
   wp_walk using wpAny_loadPart' hl,wpAny_loadPart' hb
   rw[e1,e2]
   wp_walk using Ex
   exact h
def b3d(l b:au)(items iS:Array aj)(n n2:Nat)(dd qP:Option au)(sl qJ:Array (Option aj))(a1:IntsAre items.toList ns)(a2:IntsAre iS.toList ms):Meets (Builtin.«list.__ge__» ⟨[.ref l,.ref b],[]⟩)
   (λA R s=>s.heap.get? l=cz {cls:=.type "list",dict:=dd,data:=.seq items n,slots:=sl}/\s.heap.get? b=cz {cls:=.type "list",dict:=qP,data:=.seq iS n2,slots:=qJ}/\R (.ok (.ret (.bool !v4 ns ms))) s):=by
 intro prog w A R s h;obtain⟨hp,g,d,tk,os⟩:=s;obtain⟨hl,hb,h⟩:=h;have f3:=AutoSeq1.sub_list_list
 wp_walk using wpAny_loadPart' hl,wpAny_loadPart' hb
 exact⟨gx xY _,eR entry_eq_loop (by
  rw[dm xY _];exact a7e l b items iS n n2 dd qP sl qJ ns ms 0 (by simpa using O7 a1) (by simpa using O7 a2) a1 a2 prog w A R _ ⟨hl,hb,h⟩)⟩
end
def b5r(a b:D):Option D:=(b8f a).bind λx=>(b8f b).bind λy=>cz (.bool !v4 x y)
def b8l{X:Cx}(hu:X.A.units+64<du):OpS X (bU .GtE) b5r:=by
 refine⟨λx y H Q=>∃ns ms,Den X.K H x (sqD rp ns)/\Den X.K H y (sqD rp ms)/\Q (.bl !v4 ns ms) H,?_,λx y H a b d Q ha hb hg q=>?_⟩
 ·intro pins s Y H x y v u Q I rx ry h;obtain⟨ns,ms,h1,h2,q⟩:=h;obtain⟨as,ra⟩:=Den.reads I (.list (ns.map .int)) (by simp only[dA];exact b8b ns) h1 rx;obtain⟨bs,rb⟩:=Den.reads I (.list (ms.map .int)) (by simp only[dA];exact b8b ms) h2 ry;cases ra with
  |@list la oa us na _ fa c1 c2 c3 c4=>
   cases rb with
   |@list lb ob ws nb _ fb e1 e2 e3 e4=>
    obtain⟨cls,dd,data,sl⟩:=oa;obtain⟨xO,qP,data2,qJ⟩:=ob;simp only at c2 c3 e2 e3;subst c2 c3 e2 e3;exact richCompare_meets_room (op:=.GtE) ⟨_,c1,rfl⟩ ⟨_,e1,rfl⟩ F.slot_list_ge F.entry_list_ge (F.args_list_ge_2 _ _) (b3d la lb us ws na nb dd qP sl qJ (a0o c4) (a0o e4))
     ⟨c1,e1,(λx=>nomatch x),.bl _,H,I,rfl,q⟩ (by lia)
 ·obtain⟨ns,h1,hg⟩:=bnd hg;obtain⟨ms,h2,hg⟩:=bnd hg;cases hg
  exact⟨ns,ms,a4G h1▸ha,a4G h2▸hb,q _ (by simp only[imm]) λ_=>den_bool⟩
end VS
namespace L2
open PySem
def Has.u(h:Has P w K mg base x i ps sp)(l:i<=j:=by decide):Has P w K mg base x j ps sp:=h.up l
end L2
namespace VS
open PySem PySem.Spec PyProof.Rows L2
structure DP (K:ae) (mg:bI->Option aj) (x:bI) (st:iz):Prop where
 ex:∃f fd,Fun K x x st f fd/\gZ K bV x=cz (cz (.ref f))/\mg x=cz (.ref f)
section
variable {P:bA}{w:bX}{K:ae}{mg:bI->Option aj}{base h:cf}{x:bI}{st:iz}{N ps:List bI}{k n:Nat}{us:List Ty}{u wt:Ty}{g:EvS}{sp:Sp}
def b9Y{f:au}{oc:aj}{od an:Option au}{qm:Array (Option aj)}{kV doc pm gK ct:aj}(X:K.In h)(G:h.Ns bV mg)(a:gZ K bV x=cz (cz (.ref f)))(l:K.lookup f=cz ⟨oc,od,.func (gC x x (T4 st) (v7 st) (i6 st) .none kV doc pm an gK ct),qm⟩)
  (c:mM K gK x=rp) (k:gj K (.ref f)=rp):DP K mg x st:=⟨_,_,b7b l c k,a,kO X G a⟩
def c1r(X:K.In h)(G:h.Ns bV mg)(a:gZ K bV x=cz (cz (.int i t))):∃t,mg x=cz (.int i t):=⟨t,kO X G a⟩
abbrev BBy(x:bI)(st:iz)(ps:List bI):Prop:=∀(kV doc pm:aj) (an:Option au) (gK ct:aj) (us:List aj),us.length=ps.length->rH (gC x x (T4 st) (v7 st) (i6 st) .none kV doc pm an gK ct) ⟨us,[]⟩=pure (ps.zip us)
def u5(d:DP K mg x st)(h:∀f fd,Fun K x x st f fd->FnOk P w K mg base CX0 k f fd ps sp)(b:BBy x st ps:=by intro _ _ _ _ _ _ us hl;first|(obtain⟨_,rfl⟩:=b9T hl;rfl)|(obtain⟨_,_,rfl⟩:=b4Z hl;rfl)|(obtain⟨_,_,_,rfl⟩:=b9U hl;rfl)|(obtain⟨_,_,_,_,rfl⟩:=c1l hl;rfl)|(obtain⟨_,_,_,_,_,rfl⟩:=c1m hl;rfl)|(obtain⟨_,_,_,_,_,_,rfl⟩:=c1n hl;rfl)):Has P w K mg base x k ps sp:=by
 obtain⟨f,fd,F,a,m⟩:=d.ex;exact⟨f,fd,h f fd F,F.binds b,F.kp,m⟩
def b5s(d:DP K mg x st)(h:∀f fd,Fun K x x st f fd->gZ K bV x=cz (cz (.ref f))->FnOk P w K mg base CX0 k f fd ps sp)(b:BBy x st ps:=by intro _ _ _ _ _ _ us hl;first|(obtain⟨_,rfl⟩:=b9T hl;rfl)|(obtain⟨_,_,rfl⟩:=b4Z hl;rfl)|(obtain⟨_,_,_,rfl⟩:=b9U hl;rfl)):Has P w K mg base x k ps sp:=by
 obtain⟨f,fd,F,a,m⟩:=d.ex;exact⟨f,fd,h f fd F a,F.binds b,F.kp,m⟩
def fnF(F:Fun K x x st f fd)(N:List bI)(hb:∀(S:FnScope N ps (i6 st)) (gK:aj) (A:bL) (outer:List pZ) (s:aq) (H:Hp) (E:XK),Room k (A.deeper (jM x (i6 st) s.heap.objs.size f gK))->PSsX (a0w CX0 P w K mg base N x (i6 st) f gK A outer s H E).nox u [] (us.map .own++aS n .dead) (v7 st) g [])
  (S:FnScope N ps (i6 st):=by exact⟨rfl,rfl,rfl,by decide +kernel,rfl,by decide +kernel,by decide +kernel⟩) (om:us.length=ps.length:=by rfl) (hn:N.length=ps.length+n:=by rfl):FnOk P w K mg base CX0 (k+1) f fd ps (spD K ps.length (fnD us n g) u):=b4D F S om hn (hb S)
def c1s(F:Fun K x x st f fd)(N:List bI)(M':List Md)(hb:∀(S:FnScope N ps (i6 st)) (gK:aj) (A:bL) (outer:List pZ) (s:aq) (H:Hp) (E:XK),Room k (A.deeper (jM x (i6 st) s.heap.objs.size f gK))->PSsX (a0w CX0 P w K mg base N x (i6 st) f gK A outer s H E).nox .i [] (us.map .own++aS n .dead) (v7 st) g M')
  (S:FnScope N ps (i6 st):=by exact⟨rfl,rfl,rfl,by decide +kernel,rfl,by decide +kernel,by decide +kernel⟩) (om:us.length=ps.length:=by rfl) (hn:N.length=ps.length+n:=by rfl):FnOk P w K mg base CX0 (k+1) f fd ps (spD K ps.length (fnN us n g) .i):=b2e F S om hn (hb S)
def b9Z{Φ:(List D->Option D)->Hp->V->Prop}{g:(List D->Option D)->EvS}(F:Fun K x x st f fd)(N:List bI)(hb:∀(S:FnScope N ps (i6 st)) (gm:List D->Option D) (gK:aj) (A:bL) (outer:List pZ) (s:aq) (H:Hp) (E:XK),Room k (A.deeper (jM x (i6 st) s.heap.objs.size f gK))->PSsX (a0w CX0 P w K mg base N x (i6 st) f gK A outer s H E).nox u [] (us.map .own++(.fn (Φ gm)::aS n .dead)) (v7 st) (g gm) [])
  (S:FnScope N ps (i6 st):=by exact⟨rfl,rfl,rfl,by decide +kernel,rfl,by decide +kernel,by decide +kernel⟩) (om:us.length+1=ps.length:=by rfl) (hn:N.length=ps.length+n:=by rfl) (hj:j=us.length:=by rfl):FnOk P w K mg base CX0 (k+1) f fd ps (spL K j Φ (fnL us n g) u):=hj▸b2L (M':=λ_=>[]) F S om hn (hb S)
def c1t(F:Fun K x x st f fd)(N:List bI)(lt:(C5 K x).isSome=rp)(X:K.In base)(G:base.Ns bV mg)(a:gZ K bV x=cz (cz (.ref f)))(hb:∀(S:FnScope N ps (i6 st)) (c:au) (p:au) (hc:fd.code=.ref c) (hp:C5 K x=cz p) (hd:gQ base c p) (A:bL) (outer:List pZ) (s:aq) (H:Hp) (E:XK),Room k (A.deeper (jM x (i6 st) s.heap.objs.size f fd.code))->PSsX (a0w CX0 P w K mg base N x (i6 st) f fd.code A outer s H E).nox u [] (us.map .own++aS n .dead) (v7 st) g [])
  (S:FnScope N ps (i6 st):=by exact⟨rfl,rfl,rfl,by decide +kernel,rfl,by decide +kernel,by decide +kernel⟩) (om:us.length=ps.length:=by rfl) (hn:N.length=ps.length+n:=by rfl):FnOk P w K mg base CX0 (k+1) f fd ps (spD K ps.length (fnD us n g) u):=by
 obtain⟨oc,od,kV,doc,pm,an,gK,ct,qm,e,lk,jg⟩:=F.ex;obtain⟨c,p,h1,h2,h3⟩:=b2P lt X G a lk;exact b2O F S om hn (hb S c p h1 h2 h3)
def b8m(Ah:mg x=cz (.ref fa))(d:DP K mg x st)(h:∀base:cf,K.In base->base.Ns bV mg->∀fd,Fun K x x st fa fd->FnOk P w K mg base CX0 k fa fd [p] sp)(b:∀(kV doc pm:aj) (an:Option au) (gK ct v:aj),rH (gC x x (T4 st) (v7 st) (i6 st) .none kV doc pm an gK ct) ⟨[v],[]⟩=pure [(p,v)]:=by intros;rfl) :
  ∃fd:dR,(∀(s:aq) (v:aj),o_ s fd ⟨[v],[]⟩ [(p,v)])/\∀base:cf,K.In base->base.Ns bV mg->FnOk P w K mg base CX0 k fa fd [p] sp:=by
 obtain⟨f,fd,F,a,m⟩:=d.ex;rw[Ah]at m;cases m
 refine⟨fd,λs v=>?_,λbase X G=>h base X G fd F⟩;obtain⟨oc,od,kV,doc,pm,an,gK,ct,qm,rfl,lk,jg⟩:=F.ex;exact .of_eq (b kV doc pm an gK ct v)
end
section
variable {X:Cx}{M:List Md}{e e0:Expr}{es:List Expr}{fe:EvE}{f:EvA}{c:Cat}{u:Ty}{pos p:fQ}{x:bI}
abbrev mdF:Md:=.own .f
abbrev mdI:Md:=.own .i
abbrev mdL:Md:=.own (.l .i)
abbrev C6:Md:=.own (.l (.l .i))
abbrev mdD:Md:=.dead
def f8(i:Nat)(hN:X.N[i]?=cz x:=by rfl)(hv:Vis X.env.scope x:=by first|exact cg rfl|exact bP (cg rfl)|exact bP (bP rfl))(hd:(x==("__debug__":bI))=xn:=by decide)(jg:(x==("__classdict__":bI))=xn:=by decide)(hm:M[i]?=cz (.own .f):=by rfl):PX X M (.Name x pos) (b7 i) (.bor .f):=A7 i hN hv hd jg hm
def c9(i:Nat)(hN:X.N[i]?=cz x:=by rfl)(hv:Vis X.env.scope x:=by first|exact cg rfl|exact bP (cg rfl)|exact bP (bP rfl))(hd:(x==("__debug__":bI))=xn:=by decide)(jg:(x==("__classdict__":bI))=xn:=by decide)(hm:M[i]?=cz (.own .i):=by rfl):PX X M (.Name x pos) (b7 i) (.bor .i):=A7 i hN hv hd jg hm
def K6(i:Nat)(hN:X.N[i]?=cz x:=by rfl)(hv:Vis X.env.scope x:=by first|exact cg rfl|exact bP (cg rfl)|exact bP (bP rfl))(hd:(x==("__debug__":bI))=xn:=by decide)(jg:(x==("__classdict__":bI))=xn:=by decide)(hm:M[i]?=cz (.own (.l .i)):=by rfl):PX X M (.Name x pos) (b7 i) (.bor (.l .i)):=A7 i hN hv hd jg hm
def D4(i:Nat)(hN:X.N.Nodup)(hi:X.N[i]?=cz x:=by rfl)(hx:Loc X.env.scope x:=by first|exact cg rfl|exact bP rfl)(hf:X.fn x=rp\/X.env.scope.names.lookup x=cz .local:=by first|exact .inl rfl|exact .inr rfl|assumption):PG X (.Name x pos) (Z6 i):=A9 hN hi hx hf
def G6(hm:X.mg "len"=p4)(h:PX X M e fe c)(hg:Gl X "len":=by rfl)(he:ao [e] X.env=(xn,cG e X.env)::ao [] X.env:=by rfl)(gh:(cC pos (ao [] X.env)).any (·.1)=xn:=by rfl):PX X M (.Call (.Name "len" p) [e] [] pos) (eCl F7 (b8 fe i5)) (.new .i):=b1M b7g hm PySem.boot_len (i8 h n6 he) hg (by decide) (by decide) he gh
def J0(W:Has X.prog X.w X.K X.mg X.base x k ps (spD X.K n m u))(hr:Room k X.A)(h:PAX X M (e0::es) f)(hu:u.shut=rp:=by rfl)(hl:(e0::es).length=n:=by rfl)(hfl:∀U ds,f U=cz ds->ds.length=(e0::es).length:=by first|exact j8 E6|exact j8 (j8 E6)|exact j8 (j8 (j8 E6))|exact j8 (j8 (j8 (j8 E6)))|exact j8 (j8 (j8 (j8 (j8 E6)))))
  (hg:Gl X x:=by rfl) (lX:(x==("__debug__":bI))=xn:=by decide) (he:ao (e0::es) X.env=(xn,cG e0 X.env)::ao es X.env:=by rfl) (gh:(cC pos (ao es X.env)).any (·.1)=xn:=by rfl) :
  PX X M (.Call (.Name x p) (e0::es) [] pos) (eCl m f) (.new u):=b4z W hr h hu hl hfl hg lX he gh
def O0(hu:X.A.units+64<du:=by exact Room.units (by assumption)):OpS X (bU .Eq) dEq:=os_eq hu
def a1C(hu:X.A.units+64<du:=by exact Room.units (by assumption)):OpS X (bU .NotEq) dNe:=b9l hu
end
end VS
namespace VS
open PySem L2
section
variable {a b c:EvE}{U:List D}{d x y:D}
def chE(g':D->D->Option D):Option D->Option D->EvE->List D->Option D
 |some (.bool rp),cz y,c,U=>l2 g' (cz y) (c U)
 |some (.bool xn),cz _,_,_=>cz (.bool xn)
 |_,_,_,_=>p4
def c1u:eCh g g' a b c U=chE g' (l2 g (a U) (b U)) (b U) c U:=by
 unfold eCh;cases a U with
 |none=>rfl
 |some x=>
  cases b U with
  |none=>rfl
  |some y=>
   show (g x y).bind _=chE g' (g x y) (cz y) c U;cases g x y with
   |none=>rfl
   |some z=>
    cases z with
    |bool k=>
     cases k with
     |false=>rfl
     |true=>cases h:c U<;>simp[chE,asB,h,l2]
    |_=>rfl
def c0a:chE g' (cz (.bool rp)) (cz y) c U=l2 g' (cz y) (c U):=rfl
def c0b:chE g' (cz (.bool xn)) (cz y) c U=cz (.bool xn):=rfl
def c1v:(rp==rp)=rp:=rfl
def c1w:(rp==xn)=xn:=rfl
def c1x:(xn==rp)=xn:=rfl
def c1y:(xn==xn)=rp:=rfl
def c1z:(rp !=rp)=xn:=rfl
def c1A:(rp !=xn)=rp:=rfl
def c1B:(xn !=rp)=rp:=rfl
def c1C:(xn !=xn)=xn:=rfl
def trB:tr (.bool k)=cz k:=rfl
def c0c:asB (.bool k)=cz k:=rfl
def b3e:isN .none=rp:=rfl
def b5t:isN (.int i)=xn:=rfl
def b3f:isN (.bool i)=xn:=rfl
def b3g:isN (.list ds)=xn:=rfl
def b5u:isN (.tuple ds)=xn:=rfl
def b8n:Z2 k x .none=cz (.bool (k !=isN x)):=rfl
def b0T:isInt (.int i)=rp:=rfl
def a8u:isInt (.bool i)=rp:=rfl
def a8v:isInt .none=xn:=rfl
def a8w:isInt (.list ds)=xn:=rfl
def b0U:isInt (.tuple ds)=xn:=rfl
def b0V:isInt (.str s)=xn:=rfl
def a8x:isInt (.dict s)=xn:=rfl
def a8y:isBool (.int i)=xn:=rfl
def a7f:isBool (.bool i)=rp:=rfl
def a7g:isBool .none=xn:=rfl
def a7h:isBool (.list ds)=xn:=rfl
def a8z:isBool (.tuple ds)=xn:=rfl
def a8A:isBool (.str s)=xn:=rfl
def a7i:isBool (.dict s)=xn:=rfl
def isList_list:isList (.list ds)=rp:=rfl
def isList_int:isList (.int i)=xn:=rfl
def a7j:isList .none=xn:=rfl
def isList_bool:isList (.bool i)=xn:=rfl
def a8B:isList (.tuple ds)=xn:=rfl
def isList_str:isList (.str s)=xn:=rfl
def isList_dict:isList (.dict s)=xn:=rfl
def a7k:a5y (.tuple ds)=rp:=rfl
def isTuple_list:a5y (.list ds)=xn:=rfl
def isTuple_int:a5y (.int i)=xn:=rfl
def lIs:Option D->Option D
 |some d=>b1K d
 |none=>p4
def a4L:eI a U=lIs (a U):=by unfold eI;cases a U<;>rfl
def a7l(h:e7 ds=rp):lIs (cz (.list ds))=cz (.list ds):=by
 show (if e7 ds=rp then cz (dX ds) else p4)=_;rw[aC h]
def b3h:Option D->Option D
 |some (.list ds)=>cz (.list ds)
 |some (.tuple ds)=>cz (.list ds)
 |_=>p4
def a2B:W1 a U=b3h (a U):=by
 unfold W1;cases a U with
 |none=>rfl
 |some d=>cases d<;>rfl
def c0d:b3h (cz (.list ds))=cz (.list ds):=rfl
def c0e:b3h (cz (.tuple ds))=cz (.list ds):=rfl
def lL:Option D->Option (List D)
 |some d=>asL d
 |none=>p4
def b5v:iL a U=lL (a U):=by unfold iL;cases a U<;>rfl
def c1D:lL (cz (.list ds))=cz ds:=rfl
def lII:Option (List D)->Option (List D)
 |some ds=>if e7 ds then cz ds else p4
 |none=>p4
def c0f:iI f U=lII (f U):=by unfold iI;cases f U<;>rfl
def a3y(h:f U=cz ds)(hi:e7 ds=rp):iI f U=cz ds:=by rw[c0f,h];show (if e7 ds=rp then cz ds else p4)=_;rw[aC hi]
def P9{ds:List D}(h:ds.length<1000000):a9Z i (.list ds) (cz d) U=cz (.nx (U.set i (.list (ds++[d])))):=b7H h
def b8o:u8 i U d=cz (U.set i d):=rfl
def b8p:a9W i j U (.tuple [x,y])=cz ((U.set i x).set j y):=rfl
def c0g:pt1 d=cz [d]:=rfl
def c0h:pt2 (.tuple [x,y])=cz [x,y]:=rfl
def c1E:tT U=cz rp:=rfl
end
def U6(P:List D->Prop)(h1:∃U,o=cz (.nx U)/\P U)(h2:∀U,P U->a2V (s U)=R):a2V (thn o s)=R:=by
 obtain⟨U,rfl,h⟩:=h1;exact h2 U h
def W7{R:Option D->Prop}(P:List D->Prop)(h1:∃U,o=cz (.nx U)/\P U)(h2:∀U,P U->R (a2V (s U))):R (a2V (thn o s)):=by
 obtain⟨U,rfl,h⟩:=h1;exact h2 U h
theorem a7m(f:D->D):∀{ds:List D},(∀d∈ds,∃bs,pt d=cz bs/\g (bs++cs)=cz (f d))->O4 pt tT g cs ds=cz (ds.map f)
 |[],_=>rfl
 |d::ds,h=>by
  obtain⟨bs,h1,h2⟩:=h d av;have ih:=a7m f (ds:=ds) λe he=>h e (aw _ he)
  show (pt d).bind _=_;rw[h1];show (g (bs++cs)).bind _=_;rw[h2];show (O4 pt tT g cs ds).bind _=_;rw[ih];rfl
def b8q{js:List Nat}(f:D->D)(hf:fi U=cz ds)(hl:ds.length<=1000000)(h:∀d∈ds,∃bs,pt d=cz bs/\g (bs++js.map λj=>U.getD j .none)=cz (f d)) :
  n8 fi js pt tT g U=cz (.list (ds.map f)):=by
 unfold n8;rw[hf];show (if ds.length<=1000000 then _ else p4)=_;rw[aC hl,a7m f h];rfl
theorem o8(f:α->D)(h:∀x,imm (f x)=rp):∀xs:List α,e7 (xs.map f)=rp
 |[]=>by simp only[cV,e7]
 |x::xs=>by simp only[aA,e7,h x,o8 f h xs,gg]
end VS
namespace Prog
open PySem L2 VS
abbrev iD(ns:List Int):D:=.list (ns.map .int)
end Prog
namespace VS
open PySem L2
mutual
theorem eqv_refl:∀d:D,d.canLay0=rp->aH d d=rp
 |.none,_=>by simp[aH]
 |.bool b,_=>by simp[aH]
 |.int i,_=>by simp[aH]
 |.str x,_=>by simp[aH]
 |.list xs,h=>by
  simp only[dA]at h;simp only[aH];exact eqvAll_refl xs h
 |.tuple xs,h=>by
  simp only[dA]at h;simp only[aH];exact eqvAll_refl xs h
 |.dict _,h=>by simp[dA]at h
theorem eqvAll_refl:∀xs:List D,bp xs=rp->cR xs xs=rp
 |[],_=>by simp only[cR]
 |x::xs,h=>by
  simp only[bp,ar]at h;simp only[cR,ar];exact⟨eqv_refl x h.1,eqvAll_refl xs h.2⟩
end
def c0i{a b:D}(ha:a.canLay0=rp)(hb:b.canLay0=rp)(hd:a.depth<=60):dEq a b=cz (.bool (aH a b)):=by
 unfold dEq a9P;rw[ha,hb,aE hd];simp
def b6j{a b:D}(ha:a.canLay0=rp)(hb:b.canLay0=rp)(hd:a.depth<=60):dNe a b=cz (.bool (!aH a b)):=by
 unfold dNe a9P;rw[ha,hb,aE hd];simp
def b6k{a:D}(ha:a.canLay0=rp)(hd:a.depth<=60):dEq a a=cz (.bool rp):=by rw[c0i ha ha hd,eqv_refl a ha]
def b6l{a:D}(ha:a.canLay0=rp)(hd:a.depth<=60):dNe a a=cz (.bool xn):=by rw[b6j ha ha hd,eqv_refl a ha];rfl
theorem Y4(f:α->D)(h:∀x,(f x).canLay0=rp):∀xs:List α,bp (xs.map f)=rp
 |[]=>by simp only[cV,bp]
 |x::xs=>by simp only[aA,bp,h x,Y4 f h xs,gg]
theorem L9(f:α->D)(n:Nat)(h:∀x,(f x).depth<=n):∀xs:List α,dM (xs.map f)<=n
 |[]=>by simp only[cV,dM];exact cj _
 |x::xs=>by
  simp only[aA,dM];exact Nat.max_le.mpr ⟨h x,L9 f n h xs⟩
def a5S:(aJ i).canLay0=rp:=by simp only[dA]
def Y5:(aJ i).depth=0:=by simp only[gk]
def lay_ints(ns:List Int):(dX (ns.map .int)).canLay0=rp:=by
 simp only[dA];exact Y4 _ (λ_=>a5S) ns
def a8C(ns:List Int):(dX (ns.map .int)).depth<=1:=by
 simp only[gk];have:=L9 aJ 0 (λx=>by rw[Y5];exact ay _) ns;lia
theorem a7n:∀(xs ys:List Int),cR (xs.map aJ) (ys.map aJ)=decide (xs=ys)
 |[],[]=>by simp[cR]
 |[],_::_=>by simp[cR]
 |_::_,[]=>by simp[cR]
 |x::xs,y::ys=>by
  have:aH (.int x) (.int y)=decide (x=y):=by
   show (x==y)=decide (x=y);exact jj x y
  simp only[aA,cR,this,a7n xs ys,jK];by_cases h1:x=y<;>by_cases h2:xs=ys<;>simp[h1,h2]
def b8r:Option D->Option D->Option D
 |some (.list ds),cz (.list es)=>if ds.length+es.length<=aV then cz (.list (ds++es)) else p4
 |_,_=>p4
def b6m:a5B a b U=b8r (a U) (b U):=by
 unfold a5B;cases a U with
 |none=>rfl
 |some x=>
  cases x with
  |list ds=>
   cases b U with
   |none=>rfl
   |some y=>cases y<;>rfl
  |_=>cases b U<;>rfl
def b3i{ds es:List D}(h:ds.length+es.length<=16777216):b8r (cz (.list ds)) (cz (.list es))=cz (.list (ds++es)):=by
 show (if ds.length+es.length<=aV then _ else _)=_;rw[aC (show ds.length+es.length<=aV from h)]
def lSl:Option D->Option (Option Int)->Option (Option Int)->Option D
 |some (.list ds),cz l,cz h=>cz (.list (cutD ds l h))
 |_,_,_=>p4
def c1F:eSl a lo hi U=lSl (a U) (lo U) (hi U):=by
 unfold eSl;cases a U with
 |none=>rfl
 |some x=>
  cases x with
  |list ds=>
   cases lo U with
   |none=>rfl
   |some y=>cases hi U<;>rfl
  |_=>cases lo U<;>cases hi U<;>rfl
def c0j:lSl (cz (.list ds)) (cz l) (cz h)=cz (.list (cutD ds l h)):=rfl
def c0k:oNo U=cz p4:=rfl
def lO:Option D->Option (Option Int)
 |some (.int i)=>cz (cz i)
 |_=>p4
def c0l:oSo a U=lO (a U):=by
 unfold oSo;cases a U with
 |none=>rfl
 |some x=>cases x<;>rfl
def c1G:lO (cz (.int i))=cz (cz i):=rfl
def b8s{ds:List D}{k:Int}(h0:0<=k)(h1:k<=ds.length):cutD ds (cz k) p4=ds.drop k.toNat:=by
 unfold cutD HT.sIx;simp only[aI (show ¬ k<0 by lia),lR (show k.toNat<=ds.length by lia)];exact iX (by rw[hJ];exact ay _)
theorem a4M(f:α->Bool):∀xs:List α,a1P (xs.map λx=>dE (f x))=cz (xs.map f)
 |[]=>rfl
 |x::xs=>by
  show (a1P (xs.map λx=>dE (f x))).map (f x::·)=_;rw[a4M f xs];rfl
def v_all(f:α->Bool)(xs:List α):b1N [.list (xs.map λx=>dE (f x))]=cz (.bool (xs.all f)):=by
 show (a1P (xs.map λx=>dE (f x))).map (λbs=>dE (bs.all id))=_;rw[a4M];simp[List.all_map]
def b3j{xs ys:List Int}(h:xs.length+ys.length<=16777216):b8r (cz (.list (xs.map .int))) (cz (.list (ys.map .int)))=cz (.list ((xs++ys).map .int)):=by
 rw[b3i (by simpa using h),aQ]
def a5T{xs:List Int}:lIs (cz (.list (xs.map .int)))=cz (.list (xs.map .int)):=a7l (x6 _)
def c0m:Option D->Option D
 |some (.list ds)=>V9 (.tuple ds)
 |some (.tuple ds)=>V9 (.tuple ds)
 |_=>p4
def a3z:H9 a U=c0m (a U):=by
 unfold H9;cases a U with
 |none=>rfl
 |some d=>cases d<;>rfl
def W8{xs:List Int}:c0m (cz (.list (xs.map .int)))=cz (.tuple (xs.map .int)):=a6w (by simp only[imm];exact x6 xs)
def a2C:aH (.int x) (.int y)=decide (x=y):=by
 show (x==y)=decide (x=y);exact jj x y
def b6n:dNe (.bool a) (.bool b)=cz (.bool (a !=b)):=by
 show cz (dE (rp !=aH (.bool a) (.bool b)))=_;cases a<;>cases b<;>rfl
def at0{α:Type}{x:α}{xs:List α}:L2.atI (x::xs) 0=cz x:=by
 unfold L2.atI ixN;rw[aC (by decide),aC (by simp only[ba];lia)];rfl
def at1{α:Type}{x y:α}{xs:List α}:L2.atI (x::y::xs) 1=cz y:=by
 unfold L2.atI ixN;rw[aC (by decide),aC (by simp only[ba];lia)];rfl
def R9{enc:α->D}{set:List D->D->Option (List D)}{xs:List α}(I:List α->List D->Prop)(h0:I [] U)
  (step:∀pre x post,xs=pre++x::post->∀U,I pre U->∃U1 U2,set U (enc x)=cz U1/\g U1=cz (.nx U2)/\I (pre++[x]) U2) :
  ∃U',Q5 set g (xs.map enc) U=cz (.nx U')/\I xs U':=by
 have key:∀(post pre:List α) (U:List D),xs=pre++post->I pre U->∃U',Q5 set g (post.map enc) U=cz (.nx U')/\I xs U':=by
  intro post
  induction post with
  |nil=>
   intro pre U e h;rw[bM]at e;subst e;exact⟨U,rfl,h⟩
  |cons x post ih=>
   intro pre U e h;obtain⟨U1,U2,h1,h2,h3⟩:=step pre x post e U h;obtain⟨U',h4,h5⟩:=ih (pre++[x]) U2 (by rw[e,bg];rfl) h3;refine⟨U',?_,h5⟩;show (set U (enc x)).bind _=_;rw[h1];show (g U1).bind _=_;rw[h2];exact h4
 exact key xs [] U rfl h0
def Y6:B8 0 n=(aU n).map λ(k:Nat)=>aJ k:=by
 unfold B8;refine cL λk _=>?_
 show aJ (0+(k:Int))=.int k;rw[Int.zero_add]
def a2e(h:aU n=pre++x::post):x=pre.length/\x<n/\pre=aU x:=by
 have hx:(aU n)[pre.length]?=cz x:=by rw[h];simp
 have gX:pre.length<n:=by have:=d_ gA h;simp at this;lia
 rw[ic gX]at hx;have e:x=pre.length:=(aK hx).symm;refine⟨e,by lia,?_⟩;have:=d_ (List.take pre.length) h;rw[List.take_append_of_le_length (ay _),lr,List.take_range,lR (by lia)]at this;rw[e,this]
def y9{set:List D->D->Option (List D)}(I:Nat->List D->Prop)(h0:I 0 U)
  (step:∀k,k<n->∀U,I k U->∃U1 U2,set U (.int k)=cz U1/\g U1=cz (.nx U2)/\I (k+1) U2) :
  ∃U',Q5 set g (B8 0 n) U=cz (.nx U')/\I n U':=by
 rw[Y6];obtain⟨U',h1,h2⟩:=R9 (enc:=λ(k:Nat)=>aJ k) (set:=set) (g:=g) (xs:=aU n) (U:=U) (λpre U=>I pre.length U) h0 λpre x post e U h=>by
  obtain⟨e1,e2,_⟩:=a2e e;subst e1;obtain⟨U1,U2,a,b,c⟩:=step pre.length e2 U h;exact⟨U1,U2,a,b,by rw[a_];exact c⟩
 rw[dB]at h2;exact⟨U',h1,h2⟩
def big:Int:=10^60
def b3k:1000<big:=by decide
abbrev m7:=List (List (Int×Int))
def stD(p:Int×Int):D:=.tuple [.int p.1,.int p.2]
def rwD(r:List (Int×Int)):D:=.list (r.map stD)
def rowAt(m:m7)(s:Int):List (Int×Int):=m.getD s.toNat []
def stp(m:m7)(s a:Int):Int×Int:=(rowAt m s).getD a.toNat (0,0)
structure WF (m:m7) (k:Nat):Prop where
 pos:0<m.length
 le:m.length<=30
 k1:1<=k
 k5:k<=5
 rows:∀r∈m,r.length=k
 next:∀r∈m,∀p∈r,0<=p.2/\p.2<(m.length:Int)
def a4N{m:m7}{s:Int}(h0:0<=s)(h1:s<m.length):rowAt m s∈m:=by
 unfold rowAt;rw[aB,ai (by lia)];exact dt _
def WF.row{m:m7}{k:Nat}(w:WF m k){s:Int}(h0:0<=s)(h1:s<m.length):(rowAt m s).length=k:=w.rows _ (a4N h0 h1)
def b5w{m:m7}{k:Nat}(w:WF m k){s a:Int}(h0:0<=s)(h1:s<m.length)(h2:0<=a)(h3:a<k):stp m s a∈rowAt m s:=by
 have:=w.row h0 h1;unfold stp;rw[aB,ai (by lia)];exact dt _
def WF.nx{m:m7}{k:Nat}(w:WF m k){s a:Int}(h0:0<=s)(h1:s<m.length)(h2:0<=a)(h3:a<k):0<=(stp m s a).2/\(stp m s a).2<(m.length:Int):=w.next _ (a4N h0 h1) _ (b5w w h0 h1 h2 h3)
def b5x{m:m7}{s:Int}(h0:0<=s)(h1:s<m.length):L2.atI (m.map rwD) s=cz (rwD (rowAt m s)):=by
 rw[a1q h0 (by rw[ag];exact h1),fI];unfold rowAt;rw[aB,ai (by lia)];rfl
def c0n{r:List (Int×Int)}{a:Int}(h0:0<=a)(h1:a<r.length):dIx (rwD r) (.int a)=cz (stD (r.getD a.toNat (0,0))):=by
 show L2.atI (r.map stD) a=_;rw[a1q h0 (by rw[ag];exact h1),fI,aB,ai (by lia)];rfl
def c0o:dIx (stD p) (.int 0)=cz (.int p.1):=rfl
def c0p:dIx (stD p) (.int 1)=cz (.int p.2):=rfl
def a8D:imm (stD p)=rp:=by unfold stD;simp only[imm,e7,gg]
def b8t:V9 (stD p)=cz (stD p):=a6w a8D
def b5y:V9 (.int i)=cz (.int i):=a6w a2v
def c0q:F7 [rwD r]=cz (.int r.length):=by
 show cz (aJ ((r.map stD).length:Nat))=_;rw[ag]
def b5z:b2a i j (cz (stD p)) U=cz (.nx ((U.set i (.int p.1)).set j (.int p.2))):=rfl
def b8u(p:Int×Int):(stD p).canLay0=rp:=by unfold stD;simp[dA,bp]
def b8v(r:List (Int×Int)):(rwD r).canLay0=rp:=by unfold rwD;simp only[dA];exact Y4 _ b8u r
def a7o(m:m7):(dX (m.map rwD)).canLay0=rp:=by simp only[dA];exact Y4 _ b8v m
def b3l(p:Int×Int):(stD p).depth<=1:=by unfold stD;simp[gk,dM]
def b3m(r:List (Int×Int)):(rwD r).depth<=2:=by
 unfold rwD;simp only[gk];have:=L9 stD 1 b3l r;lia
def a3A(m:m7):(dX (m.map rwD)).depth<=60:=by
 simp only[gk];have:=L9 rwD 2 b3m m;lia
def neM{m:m7}:dNe (.list (m.map rwD)) (.list (m.map rwD))=cz (.bool xn):=b6l (a7o m) (a3A m)
def b8w:Option Out->Option D
 |some (.rt d)=>cz d
 |some (.nx _)=>cz .none
 |_=>p4
def c0r(h:argsOk us ds=rp):fnN us n g ds=b8w (g (ds++aS n .none)):=by
 unfold fnN;rw[aC h];cases g (ds++aS n .none) with
 |none=>rfl
 |some o=>cases o<;>rfl
def a5U:b8w (cz (.nx U))=cz .none:=rfl
def a5V:b8w (cz (.rt d))=cz d:=rfl
def b8x:b3h (cz (rwD r))=cz (rwD r):=rfl
def c0s:lIs (cz (rwD r))=cz (rwD r):=a7l (o8 _ (λ_=>a8D) r)
def b8y{m:m7}(h:a U=cz (.list (m.map rwD)))(hl:m.length<=1000):n8 (iL a) [] pt1 tT (eI (W1 (b7 0))) U=cz (.list (m.map rwD)):=by
 rw[b8q (ds:=m.map rwD) id]
 ·rw[List.map_id]
 ·rw[b5v,h];rfl
 ·rw[ag];lia
 ·intro d hd;obtain⟨r,_,rfl⟩:=bj.mp hd;refine⟨_,rfl,?_⟩;show eI (W1 (b7 0)) [rwD r]=cz (rwD r);rw[a4L,a2B];show lIs (b3h (cz (rwD r)))=_;rw[b8x,c0s]
end VS
namespace Prog
open PySem L2 VS
def top(i:Nat):iz:=PySem.Challenge.pw_probewell_k45_stuck_is_shut.main.body.getD i (.Pass ⟨0,0,0,0⟩)
structure Bn (K:ae) (mg:bI->Option aj):Prop where
 d0:DP K mg "_law_cell_at" (top 23)
 d1:DP K mg "_law_cells" (top 24)
 d2:DP K mg "_law_copied" (top 27)
 d3:DP K mg "_law_answer" (top 26)
 d4:DP K mg "_law_machine" (top 28)
 d5:DP K mg "need_few_states" (top 10)
 d6:DP K mg "sets_of" (top 12)
 d7:DP K mg "least_telling" (top 19)
 d8:DP K mg "found_in_round" (top 5)
 d9:DP K mg "found_in_rounds" (top 4)
 d10:DP K mg "asks_of" (top 7)
 d11:DP K mg "parted_by" (top 21)
 d12:DP K mg "sets_behind" (top 20)
 d13:DP K mg "least_asks" (top 18)
 d14:DP K mg "stuck" (top 15)
 d15:DP K mg "_law_whole" (top 25)
 d16:DP K mg "_law_are_sets" (top 29)
 d17:DP K mg "_law_shut_by" (top 30)
 d18:DP K mg "grown" (top 17)
 d19:DP K mg "tree_of_set" (top 16)
 d20:DP K mg "all_states" (top 11)
 d21:DP K mg "tree" (top 14)
 d22:DP K mg "law" (top 31)
 all_:mg "all"=p4
 bool_:mg "bool"=p4
 dict_:mg "dict"=p4
 enumerate_:mg "enumerate"=p4
 int_:mg "int"=p4
 isinstance_:mg "isinstance"=p4
 len_:mg "len"=p4
 list_:mg "list"=p4
 range_:mg "range"=p4
 sorted_:mg "sorted"=p4
 tuple_:mg "tuple"=p4
 zip_:mg "zip"=p4
 MOST_FOR_SETS_:∃t,mg "MOST_FOR_SETS"=cz (.int 7 t)
structure Bk (P:bA) (w:bX) (K:ae) (mg:bI->Option aj) (base:cf):Prop extends Bn K mg
variable {P:bA}{w:bX}{K:ae}{mg:bI->Option aj}{base:cf}
abbrev HB(_:Bk P w K mg base):=Has P w K mg base
def c1H:(["_law_t","_law_many","_law_rows","_law_cell"]:List bI).Nodup:=by decide +kernel
def c1I:(["held","state"]:List bI).Nodup:=by decide +kernel
def c1J:(["part","found"]:List bI).Nodup:=by decide +kernel
def c1K:(["thing","newer"]:List bI).Nodup:=by decide +kernel
def c1L:(["part"]:List bI).Nodup:=by decide +kernel
def c1M:(["states","told"]:List bI).Nodup:=by decide +kernel
def c1N:(["_law_row"]:List bI).Nodup:=by decide +kernel
def c1O:(["_law_one"]:List bI).Nodup:=by decide +kernel
def c1P:(["_law_one","_law_n"]:List bI).Nodup:=by decide +kernel
def b_law_cell_at:EvS:=(i9 (sIf (tB (e2 dLt (b7 1) (eCl F7 (b8 (b7 0) i5)))) (p6 (e2 C4 (b7 0) (b7 1))) x0) (p6 (eC (.int 0))))
def m_law_cell_at:=fnD [.f,.i] 0 b_law_cell_at
abbrev Z9(B:Bk P w K mg base)(k:Nat):=HB B "_law_cell_at" k ["_law_script","_law_k"] (spD K 2 m_law_cell_at .i)
def ok_law_cell_at(B:Bk P w K mg base):Z9 B 1:=
 u5 B.d0 λ_ _ F=>fnF F ["_law_script","_law_k"] λ_ _ _ _ _ _ _ _=>by exact c7 (v9 (M':=[mdF,mdI]) (m6 a6o (c9 1) (G6 B.len_ (f8 0))) (g8 (k8 (b9 (A8 (f8 0) (c9 1))))) q8) (g8 (k8 (b9 c8)))
def b_law_cells:EvS:=(i9 (m4 2 (P7 i5)) (i9 (m4 3 (eC (.int 48271))) (i9 (F8 (iR (b7 1)) (u8 4) (i9 (m4 5 (e2 F6 (eCl m_law_cell_at (b8 (b7 0) (b8 (b7 4) i5))) (e2 a5q (eC (.int 10)) (eC (.int 64))))) (i9 (m4 3 (e2 F6 (e2 w9 (e2 w9 (e2 w9 (e2 N0 (b7 3) (eC (.int 69621))) (e2 N0 (b7 5) (eC (.int 40014)))) (e2 N0 (b7 4) (b7 4))) (eC (.int 1))) (eC (.int 2147483563)))) (sIf (tB (e2 dLt (b7 4) (eCl F7 (b8 (b7 0) i5)))) (O1 2 (.l .i) B9 (b7 5)) (O1 2 (.l .i) B9 (b7 3)))))) (p6 (b7 2)))))
def m_law_cells:=fnD [.f,.i] 4 b_law_cells
abbrev a2f(B:Bk P w K mg base)(k:Nat):=HB B "_law_cells" k ["_law_script","_law_many"] (spD K 2 m_law_cells (.l .i))
def ok_law_cells(B:Bk P w K mg base)(jq:Z9 B 1):a2f B 2:=
 u5 B.d1 λ_ _ F=>fnF F ["_law_script","_law_many","_law_found","_law_number","_law_k","_law_cell"] λsc _ _ _ _ _ _ hr=>by exact c7 (k6 2 (t:=(.l .i)) sc.nd (b9 (K4 (n:=0) (u:=.i) u7))) (c7 (k6 3 (t:=.i) sc.nd (b9 c8)) (c7 (E4 (M:=[mdF,mdI,mdL,mdI,mdD,mdD]) (MB:=[mdF,mdI,mdL,mdI,mdI,mdD]) rfl bZ (A1 B.range_ (c9 1)) (D4 4 sc.nd) E3 a5C (PSsX.weak (M2:=[mdF,mdI,mdL,mdI,mdI,mdI]) (c7 (k6 5 (t:=.i) sc.nd (b9 (i7 v6 (J0 jq hr (i8 (f8 0) (i8 (c9 4) n6))) (i7 a2P c8 c8)))) (c7 (k6 3 (t:=.i) sc.nd (b9 (i7 v6 (i7 y7 (i7 y7 (i7 y7 (i7 N1 (c9 3) c8) (i7 N1 (c9 5) c8)) (i7 N1 (c9 4) (c9 4))) c8) c8))) (g8 (v9 (M':=[mdF,mdI,mdL,mdI,mdI,mdI]) (m6 a6o (c9 4) (G6 B.len_ (f8 0))) (g8 (U0 2 (u:=(.l .i)) (t:=.i) (L1 2 (u:=(.l .i))) (b9 (PX.newi (c9 5))) a0H)) (g8 (U0 2 (u:=(.l .i)) (t:=.i) (L1 2 (u:=(.l .i))) (b9 (PX.newi (c9 3))) a0H)))))) l9 ((l6 4).trans (l6 5)))) (g8 (k8 (X7 2 (u:=(.l .i)))))))
def b_law_copied:EvS:=(i9 (m4 3 (P7 i5)) (i9 (F8 (iR (b7 1)) (u8 4) (sIf (tB (e2 dLt (b7 4) (b7 2))) (O1 3 (.l .i) B9 (e2 F6 (e2 w9 (b7 4) (e2 a0z (e2 C4 (b7 0) (eC (.int 0))) (eC (.int 1000)))) (b7 2))) (O1 3 (.l .i) B9 (e2 F6 (e2 C4 (b7 0) (e2 w9 (eC (.int 3)) (b7 4))) (b7 2))))) (i9 (sIf (tB (e2 dEq (e2 F6 (e2 a0z (e2 C4 (b7 0) (eC (.int 1))) (eC (.int 20))) (eC (.int 2))) (eC (.int 1)))) (b7Y 3) x0) (p6 (b7 3)))))
def m_law_copied:=fnD [.f,.i,.i] 2 b_law_copied
abbrev a0S(B:Bk P w K mg base)(k:Nat):=HB B "_law_copied" k ["_law_xs","_law_n","_law_many"] (spD K 3 m_law_copied (.l .i))
def ok_law_copied(B:Bk P w K mg base):a0S B 1:=
 u5 B.d2 λ_ _ F=>fnF F ["_law_xs","_law_n","_law_many","_law_rows","_law_s"] λsc _ _ _ _ _ _ hr=>by exact c7 (k6 3 (t:=(.l .i)) sc.nd (b9 (K4 (n:=0) (u:=.i) u7))) (c7 (E4 (M:=[mdF,mdI,mdI,mdL,mdD]) (MB:=[mdF,mdI,mdI,mdL,mdI]) rfl bZ (A1 B.range_ (c9 1)) (D4 4 sc.nd) E3 a5C (PSsX.weak (M2:=[mdF,mdI,mdI,mdL,mdI]) (g8 (v9 (M':=[mdF,mdI,mdI,mdL,mdI]) (m6 a6o (c9 4) (c9 2)) (g8 (U0 3 (u:=(.l .i)) (t:=.i) (L1 3 (u:=(.l .i))) (b9 (i7 v6 (i7 y7 (c9 4) (i7 P6 (A8 (f8 0) c8) c8)) (c9 2))) a0H)) (g8 (U0 3 (u:=(.l .i)) (t:=.i) (L1 3 (u:=(.l .i))) (b9 (i7 v6 (A8 (f8 0) (i7 y7 c8 (c9 4))) (c9 2))) a0H)))) l9 (l6 4))) (c7 (v9 (M':=[mdF,mdI,mdI,mdL,mdD]) (m6 O0 (i7 v6 (i7 P6 (A8 (f8 0) c8) c8) c8) c8) (g8 (b8a 3)) q8) (g8 (k8 (X7 3 (u:=(.l .i)))))))
def b_law_answer:EvS:=(i9 (m4 2 (e2 a1j (e2 F6 (e2 a0z (e2 C4 (b7 1) (eC (.int 2))) (eC (.int 1000))) (e2 a1j (e2 N0 (eC (.int 2)) (e2 a5q (eC (.int 10)) (eC (.int 60)))) (eC (.int 2)))) (e2 a1j (e2 a5q (eC (.int 10)) (eC (.int 60))) (eC (.int 1))))) (i9 (sIf (tB (e2 dEq (e2 F6 (e2 a0z (e2 C4 (b7 1) (eC (.int 1))) (eC (.int 5))) (eC (.int 4))) (eC (.int 1)))) (p6 (e2 w9 (b7 2) (e2 F6 (b7 0) (eC (.int 2))))) x0) (i9 (sIf (tB (e2 dEq (e2 F6 (e2 a0z (e2 C4 (b7 1) (eC (.int 1))) (eC (.int 5))) (eC (.int 4))) (eC (.int 2)))) (p6 (e2 a1j (e2 F6 (b7 0) (eC (.int 3))) (eC (.int 1)))) x0) (i9 (sIf (tB (e2 dEq (e2 F6 (e2 a0z (e2 C4 (b7 1) (eC (.int 1))) (eC (.int 5))) (eC (.int 4))) (eC (.int 3)))) (p6 (e2 a1j (e2 F6 (b7 0) (e2 a1j (e2 N0 (eC (.int 2)) (e2 a5q (eC (.int 10)) (eC (.int 60)))) (eC (.int 1)))) (e2 a1j (e2 a5q (eC (.int 10)) (eC (.int 60))) (eC (.int 1))))) x0) (p6 (e2 F6 (b7 0) (eC (.int 2))))))))
def m_law_answer:=fnD [.i,.f] 1 b_law_answer
abbrev a0T(B:Bk P w K mg base)(k:Nat):=HB B "_law_answer" k ["_law_number","_law_xs"] (spD K 2 m_law_answer .i)
def ok_law_answer(B:Bk P w K mg base):a0T B 1:=
 u5 B.d3 λ_ _ F=>fnF F ["_law_number","_law_xs","_law_low"] λsc _ _ _ _ _ _ hr=>by exact c7 (k6 2 (t:=.i) sc.nd (b9 (i7 T7 (i7 v6 (i7 P6 (A8 (f8 1) c8) c8) (i7 T7 (i7 N1 c8 (i7 a2P c8 c8)) c8)) (i7 T7 (i7 a2P c8 c8) c8)))) (c7 (v9 (M':=[mdI,mdF,mdI]) (m6 O0 (i7 v6 (i7 P6 (A8 (f8 1) c8) c8) c8) c8) (g8 (k8 (b9 (i7 y7 (c9 2) (i7 v6 (c9 0) c8))))) q8) (c7 (v9 (M':=[mdI,mdF,mdI]) (m6 O0 (i7 v6 (i7 P6 (A8 (f8 1) c8) c8) c8) c8) (g8 (k8 (b9 (i7 T7 (i7 v6 (c9 0) c8) c8)))) q8) (c7 (v9 (M':=[mdI,mdF,mdI]) (m6 O0 (i7 v6 (i7 P6 (A8 (f8 1) c8) c8) c8) c8) (g8 (k8 (b9 (i7 T7 (i7 v6 (c9 0) (i7 T7 (i7 N1 c8 (i7 a2P c8 c8)) c8)) (i7 T7 (i7 a2P c8 c8) c8))))) q8) (g8 (k8 (b9 (i7 v6 (c9 0) c8)))))))
def b_law_machine:EvS:=(i9 (m4 3 (eCl m_law_cells (b8 (b7 0) (b8 (eC (.int 3)) i5)))) (i9 (m4 4 (e2 w9 (eC (.int 1)) (e2 F6 (e2 N2 (b7 3) (eC (.int 0))) (b7 1)))) (i9 (sIf (tB (e2 dEq (e2 F6 (e2 a0z (e2 N2 (b7 3) (eC (.int 0))) (b7 1)) (eC (.int 8))) (eC (.int 3)))) (m4 4 (e2 w9 (eC (.int 1)) (e2 F6 (e2 a0z (e2 N2 (b7 3) (eC (.int 0))) (e2 N0 (eC (.int 8)) (b7 1))) (b7 2)))) x0) (i9 (m4 5 (e2 w9 (eC (.int 1)) (e2 F6 (e2 N2 (b7 3) (eC (.int 1))) (eC (.int 5))))) (i9 (m4 6 (b7 4)) (i9 (sIf (tB (e2 dEq (e2 F6 (e2 N2 (b7 3) (eC (.int 2))) (eC (.int 4))) (eC (.int 3)))) (m4 6 (e2 w9 (eC (.int 1)) (e2 F6 (e2 a0z (e2 N2 (b7 3) (eC (.int 2))) (eC (.int 4))) (b7 4)))) x0) (i9 (m4 7 (eCl m_law_cells (b8 (b7 0) (b8 (e2 w9 (e2 w9 (eC (.int 3)) (b7 4)) (e2 N0 (e2 N0 (eC (.int 2)) (b7 4)) (b7 5))) i5)))) (i9 (m4 8 (eCl m_law_copied (b8 (b7 7) (b8 (b7 4) (b8 (b7 6) i5))))) (i9 (m4 9 (P7 i5)) (i9 (F8 (iR (b7 4)) (u8 10) (i9 (m4 11 (P7 i5)) (i9 (F8 (iR (b7 5)) (u8 12) (i9 (m4 13 (e2 N2 (b7 7) (e2 w9 (e2 w9 (e2 w9 (eC (.int 3)) (b7 4)) (e2 N0 (e2 N2 (b7 8) (b7 10)) (b7 5))) (b7 12)))) (i9 (m4 14 (n8 (iR (b7 4)) [6,8,13] pt1 (tB (e2 dEq (e2 N2 (b7 2) (b7 0)) (e2 F6 (b7 3) (b7 1)))) (b7 0))) (i9 (m4 15 (e2 N2 (b7 7) (e2 w9 (e2 w9 (e2 w9 (e2 w9 (eC (.int 3)) (b7 4)) (e2 N0 (b7 4) (b7 5))) (e2 N0 (b7 10) (b7 5))) (b7 12)))) (O1 11 (.l .i) B9 (Z3 (b8 (eCl m_law_answer (b8 (e2 a0z (b7 13) (b7 6)) (b8 (b7 7) i5))) (b8 (e2 N2 (b7 14) (e2 F6 (b7 15) (eCl F7 (b8 (b7 14) i5)))) i5)))))))) (O1 9 (.l (.l .i)) B9 (b7 11))))) (p6 (b7 9))))))))))))
def m_law_machine:=fnD [.f,.i,.i] 13 b_law_machine
abbrev a0a(B:Bk P w K mg base)(k:Nat):=HB B "_law_machine" k ["_law_script","_law_small","_law_large"] (spD K 3 m_law_machine (.l (.l .i)))
def ok_law_machine(B:Bk P w K mg base)(jh:a2f B 2)(jG:a0S B 2)(jH:a0T B 2):a0a B 3:=
 u5 B.d4 λ_ _ F=>fnF F ["_law_script","_law_small","_law_large","_law_first","_law_n","_law_asks","_law_many","_law_xs","_law_rows","_law_table","_law_s","_law_row","_law_a","_law_cell","_law_copies","_law_pick"] λsc _ _ _ _ _ _ hr=>by exact c7 (k6 3 (t:=(.l .i)) sc.nd (b9 (J0 jh hr (i8 (f8 0) (i8 c8 n6))))) (c7 (k6 4 (t:=.i) sc.nd (b9 (i7 y7 c8 (i7 v6 (N3 (K6 3) c8) (c9 1))))) (c7 (v9 (M':=[mdF,mdI,mdI,mdL,mdI,mdD,mdD,mdD,mdD,mdD,mdD,mdD,mdD,mdD,mdD,mdD]) (m6 O0 (i7 v6 (i7 P6 (N3 (K6 3) c8) (c9 1)) c8) c8) (g8 (k6 4 (t:=.i) sc.nd (b9 (i7 y7 c8 (i7 v6 (i7 P6 (N3 (K6 3) c8) (i7 N1 c8 (c9 1))) (c9 2)))))) q8) (c7 (k6 5 (t:=.i) sc.nd (b9 (i7 y7 c8 (i7 v6 (N3 (K6 3) c8) c8)))) (c7 (k6 6 (t:=.i) sc.nd (b9 (PX.newi (c9 4)))) (c7 (v9 (M':=[mdF,mdI,mdI,mdL,mdI,mdI,mdI,mdD,mdD,mdD,mdD,mdD,mdD,mdD,mdD,mdD]) (m6 O0 (i7 v6 (N3 (K6 3) c8) c8) c8) (g8 (k6 6 (t:=.i) sc.nd (b9 (i7 y7 c8 (i7 v6 (i7 P6 (N3 (K6 3) c8) c8) (c9 4)))))) q8) (c7 (k6 7 (t:=(.l .i)) sc.nd (b9 (J0 jh hr (i8 (f8 0) (i8 (i7 y7 (i7 y7 c8 (c9 4)) (i7 N1 (i7 N1 c8 (c9 4)) (c9 5))) n6))))) (c7 (k6 8 (t:=(.l .i)) sc.nd (b9 (J0 jG hr (i8 (K6 7) (i8 (c9 4) (i8 (c9 6) n6)))))) (c7 (k6 9 (t:=(.l (.l .i))) sc.nd (b9 (K4 (n:=0) (u:=(.l .i)) u7))) (c7 (E4 (M:=[mdF,mdI,mdI,mdL,mdI,mdI,mdI,mdL,mdL,C6,mdD,mdD,mdD,mdD,mdD,mdD]) (MB:=[mdF,mdI,mdI,mdL,mdI,mdI,mdI,mdL,mdL,C6,mdI,mdD,mdD,mdD,mdD,mdD]) rfl bZ (A1 B.range_ (c9 4)) (D4 10 sc.nd) E3 a5C (PSsX.weak (M2:=[mdF,mdI,mdI,mdL,mdI,mdI,mdI,mdL,mdL,C6,mdI,mdD,mdD,mdD,mdD,mdD]) (c7 (k6 11 (t:=(.l .i)) sc.nd (b9 (K4 (n:=0) (u:=.i) u7))) (c7 (E4 (M:=[mdF,mdI,mdI,mdL,mdI,mdI,mdI,mdL,mdL,C6,mdI,mdL,mdD,mdD,mdD,mdD]) (MB:=[mdF,mdI,mdI,mdL,mdI,mdI,mdI,mdL,mdL,C6,mdI,mdL,mdI,mdD,mdD,mdD]) rfl bZ (A1 B.range_ (c9 5)) (D4 12 sc.nd) E3 a5C (PSsX.weak (M2:=[mdF,mdI,mdI,mdL,mdI,mdI,mdI,mdL,mdL,C6,mdI,mdL,mdI,mdI,mdL,mdI]) (c7 (k6 13 (t:=.i) sc.nd (b9 (PX.newi (N3 (K6 7) (i7 y7 (i7 y7 (i7 y7 c8 (c9 4)) (i7 N1 (N3 (K6 8) (c9 10)) (c9 5))) (c9 12)))))) (c7 (a0j 14 (t:=.i) sc.nd rfl (tn:=["_law_t"]) (ys:=["_law_many","_law_rows","_law_cell"]) (js:=[6,8,13]) (mm:=.i) (A1 B.range_ (c9 4)) rfl (λ_ _ _ _ _=>A9 (i:=0) c1H rfl (cg rfl) (.inr rfl)) K9 (.inl rfl) b6a rfl (λ_ _ _ _ _=>a7Q (m6 O0 (N3 (K6 2) (c9 0)) (i7 v6 (c9 3) (c9 1)))) (λ_ _ _ _ _=>(PX.newi (c9 0)))) (c7 (k6 15 (t:=.i) sc.nd (b9 (PX.newi (N3 (K6 7) (i7 y7 (i7 y7 (i7 y7 (i7 y7 c8 (c9 4)) (i7 N1 (c9 4) (c9 5))) (i7 N1 (c9 10) (c9 5))) (c9 12)))))) (g8 (U0 11 (u:=(.l .i)) (t:=.i) (L1 11 (u:=(.l .i))) (b9 (a5w (n:=2) (C8 (u:=.i) (J0 jH hr (i8 (i7 P6 (c9 13) (c9 6)) (i8 (K6 7) n6))) (C8 (u:=.i) (PX.newi (N3 (K6 14) (i7 v6 (c9 15) (G6 B.len_ (K6 14))))) u7)))) a0H))))) l9 ((((l6 12).trans (l6 13)).trans (l6 14)).trans (l6 15)))) (g8 (U0 9 (u:=(.l (.l .i))) (t:=(.l .i)) (L1 9 (u:=(.l (.l .i)))) (X7 11 (u:=(.l .i))) a0H)))) l9 (l6 10))) (g8 (k8 (X7 9 (u:=(.l (.l .i)))))))))))))))
def P3:EvS:=(sIf (tB (e2 dGt (eCl F7 (b8 (b7 0) i5)) (eC (.int 7)))) sNo x0)
def v5:=fnN [.f] 0 P3
abbrev G7(B:Bk P w K mg base)(k:Nat):=HB B "need_few_states" k ["machine"] (spD K 1 v5 .i)
def a0p(B:Bk P w K mg base):G7 B 1:=
 u5 B.d5 λ_ _ F=>c1s F ["machine"] [.own .f] λ_ _ _ _ _ _ _ _=>by exact g8 (v9 (M':=[mdF]) (m6 b1B (G6 B.len_ (f8 0)) (b4u B.MOST_FOR_SETS_)) (g8 (b9p)) q8)
def a4O:EvS:=(i9 (m4 1 (P7 (b8 (Z3 i5) i5))) (i9 (F8 (iR (b7 0)) (u8 2) (m4 1 (eI (a5B (b7 1) (n8 (iI (iL (b7 1))) [2] pt1 tT (e2 a0P (b7 0) (Z3 (b8 (b7 1) i5)))))))) (p6 (eI (eSl (b7 1) (oSo (eC (.int 1))) oNo)))))
def S6:=fnD [.i] 2 a4O
abbrev a1D(B:Bk P w K mg base)(k:Nat):=HB B "sets_of" k ["states"] (spD K 1 S6 (.l .i))
def a8E(B:Bk P w K mg base):a1D B 1:=
 u5 B.d6 λ_ _ F=>fnF F ["states","found","state"] λsc _ _ _ _ _ _ _=>by exact c7 (k6 1 (t:=(.l .i)) sc.nd (b9 (K4 (n:=1) (u:=.i) (C8 (u:=.i) (a5w (n:=0) u7) u7)))) (c7 (E4 (M:=[mdI,mdL,mdD]) (MB:=[mdI,mdL,mdI]) rfl bZ (A1 B.range_ (c9 0)) (D4 2 sc.nd) E3 a5C (PSsX.weak (M2:=[mdI,mdL,mdI]) (g8 (PSX.weak (M1:=[mdI,mdF,mdI]) (k6 1 (t:=(.l .i)) sc.nd (b9 (MkL.i (b1T (PX.newf (f8 1)) (a0F rfl (tn:=["held"]) (ys:=["state"]) (js:=[2]) (m:=.i) (PIX.i (C9 (PX.newf (f8 1)))) rfl (λ_ _ _ _ _=>A9 (i:=0) c1I rfl (cg rfl) (.inr rfl)) K9 (.inl rfl) a8T rfl (λ_ _ _ _ _=>X6) (λ_ _ _ _ _=>(b5k (c9 0) (a5w (n:=1) (C8 (u:=.i) (PX.newi (c9 1)) u7))))))))) (N4 1) l9)) l9 (l6 2))) (g8 (k8 (b9 (MkL.i (b1S (K6 1) (b1Q c8) b1P))))))
def U9:EvS:=(i9 (F8 (iEn (b7 0)) (a9W 2 3) (sIf (tAn (tB (e2 (Z2 rp) (b7 3) (eC .none))) (tV (eCl b1N (b8 (n8 (iL (b7 3)) [1] pt1 tT (e2 (Z4 xn rp) (b7 0) (b7 1))) i5)))) (p6 (eIm (b7 2))) x0)) (p6 (eC .none)))
def q9:=fnD [.f,.f] 2 U9
abbrev V0(B:Bk P w K mg base)(k:Nat):=HB B "least_telling" k ["behind","found"] (spD K 2 q9 .i)
def a1E(B:Bk P w K mg base):V0 B 1:=
 u5 B.d7 λ_ _ F=>fnF F ["behind","found","ask","parts"] λsc _ _ _ _ _ _ hr=>by exact c7 (b4N (fi:=(iEn (b7 0))) (M:=[mdF,mdF,mdD,mdD]) (MB:=[mdF,mdF,mdF,mdF]) rfl bZ (c1i B.enumerate_ (PX.newf (f8 0))) (a7C rfl (J7 (D4 2 sc.nd) (J7 (D4 3 sc.nd) a2s))) (b1X (w:=.f) (.inl rfl)) (λ_ _ _ _ _ e=>nomatch e) (λh=>h) (PSsX.weak (M2:=[mdF,mdF,mdF,mdF]) (g8 (v9 (M':=[mdF,mdF,mdF,mdF]) (PWX.pt (a5u (m6 a8P (f8 3) T8) (a2R (X4 (b1M (b7h rfl) B.all_ PyProof.Rows.Boot.«all» (i8 (a0F rfl (tn:=["part"]) (ys:=["found"]) (js:=[1]) (m:=.f) (C9 (PX.newf (f8 3))) rfl (λ_ _ _ _ _=>A9 (i:=0) c1J rfl (cg rfl) (.inr rfl)) K9 (.inr rfl) a6t rfl (λ_ _ _ _ _=>X6) (λ_ _ _ _ _=>(b2p (kt:=rp) (a5D (by exact hr.units)) (f8 0) (f8 1)))) n6)))))) (g8 (k8 (b9 (b8j (PX.newf (f8 2)))))) q8)) l9 ((l6 2).trans (l6 3)))) (g8 (k8 (b9 T8)))
def J4:(List D->Option D)->EvS:=λgm=>(i9 (m4 3 (eC (.dict []))) (i9 (F8 (iI (iL (b7 1))) (u8 4) (i9 (m4 5 (eCl gm (b8 (b7 4) (b8 (b7 0) i5)))) (sIf (tB (e2 (Z2 rp) (b7 5) (eC .none))) (z7 3 rp (b7 4) (b7 5)) x0))) (p6 (b7 3))))
def o9:=fnL [.f,.f] 3 J4
abbrev S7(B:Bk P w K mg base)(k:Nat):=HB B "found_in_round" k ["found","left","tell"] (spL K 2 (λgm=>FnV P w K mg base 2 2 .i gm) o9 (.d rp .i))
def a0U(B:Bk P w K mg base):S7 B 3:=
 u5 B.d8 λ_ _ F=>b9Z F ["found","left","tell","newer","thing","told"] λsc gm _ _ _ _ _ _ hr=>by exact c7 (k6 3 (t:=(.d rp .i)) sc.nd (b9 (Q8 rp .i))) (c7 (E4 (M:=[mdF,mdF,.fn (FnV P w K mg base 2 2 .i gm),.own (.d rp .i),mdD,mdD]) (MB:=[mdF,mdF,.fn (FnV P w K mg base 2 2 .i gm),.own (.d rp .i),mdI,mdD]) rfl bZ (PIX.i (C9 (PX.newf (f8 1)))) (D4 4 sc.nd) E3 a7S (PSsX.weak (M2:=[mdF,mdF,.fn (FnV P w K mg base 2 2 .i gm),.own (.d rp .i),mdI,mdI]) (c7 (k6 5 (t:=.i) sc.nd (b9 (b2K 2 (k:=2) (n:=2) (u:=.i) (m:=gm) (hr.mono (by decide)) (i8 (c9 4) (i8 (f8 0) n6)) (hfl:=(j8 (j8 E6)))))) (g8 (v9 (M':=[mdF,mdF,.fn (FnV P w K mg base 2 2 .i gm),.own (.d rp .i),mdI,mdI]) (m6 a8P (c9 5) T8) (g8 (a2w 3 (kt:=rp) (u:=.i) (by exact hr.units) (c9 4) (b9 (PX.newi (c9 5))))) q8))) l9 ((l6 4).trans (l6 5)))) (g8 (k8 (X7 3 (u:=(.d rp .i))))))
def G8:(List D->Option D)->EvS:=λgm=>(i9 (m4 3 (a5R (b7 0))) (i9 (m4 4 (b0G o9 gm (b8 (b7 3) (b8 (b7 1) i5)))) (i9 (sWh (λ_=>1000000) (tVD (b7 4)) (i9 (b0q 3 4) (i9 (m4 1 (n8 (iI (iL (b7 1))) [4] pt1 (tB (e2 (dIn rp rp) (b7 0) (b7 1))) (b7 0))) (m4 4 (b0G o9 gm (b8 (b7 3) (b8 (b7 1) i5))))))) (p6 (b7 3)))))
def p9:=fnL [.f,.f] 2 G8
abbrev P4(B:Bk P w K mg base)(k:Nat):=HB B "found_in_rounds" k ["outset","left","tell"] (spL K 2 (λgm=>FnV P w K mg base 2 2 .i gm) p9 .f)
def a0q(B:Bk P w K mg base)(gz:S7 B 3):P4 B 4:=
 u5 B.d9 λ_ _ F=>b9Z F ["outset","left","tell","found","newer"] λsc gm _ _ _ _ _ _ hr=>by exact c7 (k6 3 (t:=(.d rp .f)) sc.nd (b9 (b0K B.dict_ (PX.newf (f8 0))))) (c7 (k6 4 (t:=(.d rp .f)) sc.nd (b9 (a9i (u:=.i) (a4H (u:=(.d rp .i)) (gm:=gm) gz hr (R8 (A7 3 (u:=(.d rp .f))) (R8 (f8 1) (a9e 2))) (hfl:=(R7 (R7 a5Q))))))) (c7 (b1Y (M:=[mdF,mdF,.fn (FnV P w K mg base 2 2 .i gm),.own (.d rp .f),.own (.d rp .f)]) (λ_=>1000000) bZ (b2q (A7 4 (u:=(.d rp .f)))) (PSsX.weak (M2:=[mdF,mdL,.fn (FnV P w K mg base 2 2 .i gm),.own (.d rp .f),.own (.d rp .f)]) (c7 (b0r 3 4 (kt:=rp) (u:=.f) (by decide) (by exact hr.units)) (c7 (a0j 1 (t:=.i) sc.nd rfl (tn:=["thing"]) (ys:=["newer"]) (js:=[4]) (mm:=.i) (PIX.i (C9 (PX.newf (f8 1)))) rfl (λ_ _ _ _ _=>A9 (i:=0) c1K rfl (cg rfl) (.inr rfl)) K9 (.inl rfl) a8T rfl (λ_ _ _ _ _=>a7Q (b4Q 1 (kt:=rp) (Y2 (by exact hr.units)) (c9 0))) (λ_ _ _ _ _=>(PX.newi (c9 0)))) (g8 (k6 4 (t:=(.d rp .f)) sc.nd (b9 (a9i (u:=.i) (a4H (u:=(.d rp .i)) (gm:=gm) gz hr (R8 (A7 3 (u:=(.d rp .f))) (R8 (K6 1) (a9e 2))) (hfl:=(R7 (R7 a5Q)))))))))) l9 (N4 1))) (g8 (PSX.weak (M1:=[mdF,mdF,.fn (FnV P w K mg base 2 2 .i gm),mdF,.own (.d rp .f)]) (k8 (b9 (PX.newf (f8 3)))) (N4 3) l9))))
def a4P:EvS:=(p6 (eCl F7 (b8 (e2 dIx (b7 0) (eC (.int 0))) i5)))
def S8:=fnD [.f] 0 a4P
abbrev a4Q(B:Bk P w K mg base)(k:Nat):=HB B "asks_of" k ["machine"] (spD K 1 S8 .i)
def a8F(B:Bk P w K mg base):a4Q B 1:=
 u5 B.d10 λ_ _ F=>fnF F ["machine"] λ_ _ _ _ _ _ _ _=>by exact g8 (k8 (b9 (G6 B.len_ (J3 (PX.newf (f8 0)) c8))))
def a2g:EvS:=(i9 (m4 3 (eC (.dict []))) (i9 (F8 (iI (iIt (b7 1))) (a9W 4 5) (i9 (m4 6 (e2 C4 (e2 dIx (b7 0) (b7 4)) (b7 2))) (i9 (a3v 3 xn xn (e2 C4 (b7 6) (eC (.int 0))) (e2 C4 (b7 6) (eC (.int 1))) (eC .none) (b7 5)) x0))) (p6 (b7 3))))
def x8:=fnD [.f,.f,.i] 5 a2g
abbrev W9(B:Bk P w K mg base)(k:Nat):=HB B "parted_by" k ["machine","begun","ask"] (spD K 3 x8 .f)
def a5W(B:Bk P w K mg base):W9 B 1:=
 u5 B.d11 λ_ _ F=>fnF F ["machine","begun","ask","found","state","start","step","part"] λsc _ _ _ _ _ _ hr=>by exact c7 (k6 3 (t:=(.d xn (.d xn .i))) sc.nd (b9 (Q8 xn (.d xn .i)))) (c7 (b2R (fi:=(iI (iIt (b7 1)))) (M:=[mdF,mdF,mdI,.own (.d xn (.d xn .i)),mdD,mdD,mdD,mdD]) (MB:=[mdF,mdF,mdI,.own (.d xn (.d xn .i)),mdI,mdI,mdD,mdD]) rfl bZ (c1p (PX.newf (f8 1))) (a7C rfl (J7 (D4 4 sc.nd) (J7 (D4 5 sc.nd) a2s))) (b1X (w:=.i) (.inr rfl)) (λU ds h d hd _=>a7S U ds h d hd) b7N (PSsX.weak (M2:=[mdF,mdF,mdI,.own (.d xn (.d xn .i)),mdI,mdI,mdI,mdD]) (c7 (k6 6 (t:=.i) sc.nd (b9 (A8 (J3 (PX.newf (f8 0)) (c9 4)) (c9 2)))) (b2Y 3 7 (kt:=xn) (kt2:=xn) (fr:=(eC .none)) (by exact hr.units) sc.nd (A8 (c9 6) c8) (A8 (c9 6) c8) (A8 (c9 6) c8) (M2:=[mdF,mdF,mdI,.own (.d xn (.d xn .i)),mdI,mdI,mdI,mdD]) (k8 (b9 (PX.itof T8))) (PX.newi (c9 5)) q8)) l9 (((l6 4).trans (l6 5)).trans (l6 6)))) (g8 (PSX.weak (M1:=[mdF,mdF,mdI,mdF,mdD,mdD,mdD,mdD]) (k8 (b9 (PX.newf (f8 3)))) (N4 3) l9)))
def a0b:EvS:=(i9 (m4 2 (P7 i5)) (i9 (F8 (iR (eCl S8 (b8 (b7 0) i5))) (u8 3) (i9 (m4 4 (eCl x8 (b8 (b7 0) (b8 (K2 xn (b7 1) (b7 1)) (b8 (b7 3) i5))))) (O1 2 (.l .f) B9 (eIf (tB (e2 (Z2 xn) (b7 4) (eC .none))) (eC .none) (n8 (iVa (b7 4)) [] pt1 tT (H9 (K5 xn (b7 0)))))))) (p6 (b7 2))))
def A5:=fnD [.f,.i] 3 a0b
abbrev a0c(B:Bk P w K mg base)(k:Nat):=HB B "sets_behind" k ["machine","states"] (spD K 2 A5 (.l .f))
def a3B(B:Bk P w K mg base)(lE:a4Q B 1)(gI:W9 B 1):a0c B 2:=
 u5 B.d12 λ_ _ F=>fnF F ["machine","states","found","ask","parts"] λsc _ _ _ _ _ _ hr=>by exact c7 (k6 2 (t:=(.l .f)) sc.nd (b9 (K4 (n:=0) (u:=.f) u7))) (c7 (E4 (M:=[mdF,mdI,.own (.l .f),mdD,mdD]) (MB:=[mdF,mdI,.own (.l .f),mdI,mdD]) rfl bZ (A1 B.range_ (J0 lE hr (i8 (f8 0) n6))) (D4 3 sc.nd) E3 a5C (PSsX.weak (M2:=[mdF,mdI,.own (.l .f),mdI,mdF]) (c7 (k6 4 (t:=.f) sc.nd (b9 (by exact K1 (u:=.f) gI hr (o6 (PX.newf (f8 0)) (o6 (PX.frz (a3u xn rfl (by exact hr.units) B.dict_ B.zip_ (PX.newi (c9 1)) (PX.newi (c9 1)))) (o6 (PX.newi (c9 3)) (P0)))) (hfl:=(j8 (j8 (j8 E6))))))) (g8 (U0 2 (u:=(.l .f)) (t:=.f) (L1 2 (u:=(.l .f))) (b9 (PX.frz (u:=(.l .i)) (b1J (m6 b1F (f8 4) T8) (PX.itol (u:=.i) T8) (by exact a0F rfl (tn:=["part"]) (ys:=[]) (js:=[]) (m:=.f) (b2Z (PX.newf (f8 4))) rfl (λ_ _ _ _ _=>A9 (i:=0) c1L rfl (cg rfl) (.inr rfl)) K9 (.inr rfl) a6t rfl (λ_ _ _ _ _=>X6) (λ_ _ _ _ _=>(W2 B.tuple_ (a3m xn rfl B.sorted_ (f8 0)))))))) a0H))) l9 ((l6 3).trans (l6 4)))) (g8 (k8 (X7 2 (u:=(.l .f))))))
def a0V:EvS:=(i9 (m4 1 (eC (.dict []))) (i9 (m4 2 (eC (.dict []))) (i9 (F8 (iI (iL (eCl S6 (b8 (eCl F7 (b8 (b7 0) i5)) i5)))) (u8 3) (sIf (tB (e2 dEq (eCl F7 (b8 (b7 3) i5)) (eC (.int 1)))) (z7 1 rp (b7 3) (eC .none)) (z7 2 rp (b7 3) (eCl A5 (b8 (b7 0) (b8 (b7 3) i5)))))) (p6 (b5h p9 [.i,.f] [2] (eCl q9 (b8 (e2 (Z5 rp) (b7 2) (b7 0)) (b8 (b7 1) i5))) (b8 (b7 1) (b8 (a8t (b7 2)) i5)))))))
def z0:=fnD [.f] 3 a0V
abbrev U7(B:Bk P w K mg base)(k:Nat):=HB B "least_asks" k ["machine"] (spD K 1 z0 .f)
def a4g(B:Bk P w K mg base)(iN:a1D B 4)(gP:P4 B 4)(jm:a0c B 4)(ma:V0 B 1)(LT:(C5 K "least_asks").isSome=rp)(KB:K.In base)(GB:base.Ns bV mg):U7 B 5:=
 b5s B.d13 λ_ _ F a=>c1t F ["machine","outset","behind","states"] LT KB GB a λsc _ _ xr xB xp A outer s H _ hr=>by exact c7 (k6 1 (t:=(.d rp .i)) sc.nd (b9 (Q8 rp .i))) (c7 (k6 2 (t:=(.d rp (.l .f))) sc.nd (b9 (Q8 rp (.l .f)))) (c7 (E4 (M:=[mdF,.own (.d rp .i),.own (.d rp (.l .f)),mdD]) (MB:=[mdF,.own (.d rp .i),.own (.d rp (.l .f)),mdI]) rfl bZ (PIX.i (C9 (PX.frz (J0 iN hr (i8 (G6 B.len_ (f8 0)) n6))))) (D4 3 sc.nd) E3 a7S (PSsX.weak (M2:=[mdF,.own (.d rp .i),.own (.d rp (.l .f)),mdI]) (g8 (v9 (M':=[mdF,.own (.d rp .i),.own (.d rp (.l .f)),mdI]) (m6 O0 (G6 B.len_ (c9 3)) c8) (g8 (a2w 1 (kt:=rp) (u:=.i) (by exact hr.units) (c9 3) (b9 T8))) (g8 (a2w 2 (kt:=rp) (u:=(.l .f)) (by exact hr.units) (c9 3) (b9 (by exact K1 (u:=(.l .f)) jm hr (o6 (PX.newf (f8 0)) (o6 (PX.newi (c9 3)) (P0))) (hfl:=(j8 (j8 E6))))))))) l9 (l6 3))) (g8 (PSX.weak (M1:=[mdF,mdF,mdF,mdD]) (b5l (M:=[mdF,mdF,mdF,mdD]) rfl (by exact a7b (kf:=1) (uf:=.i) (N:=["states","found","behind"]) (pl:=["states","found"]) (ys:=["behind"]) (js:=[2]) (us:=[.i,.f]) gP hr (R8 (f8 1) (R8 (b3a rfl B.list_ (f8 2)) (b5g (by decide) xB xr xp rfl))) ⟨_,_,_,rfl,rfl,rfl,rfl,rfl,rfl⟩ ⟨⟨_,rfl⟩,trivial⟩ (by exact⟨rfl,rfl,rfl,by decide +kernel,rfl,by decide +kernel,by decide +kernel,by decide +kernel,rfl⟩) rfl (λ_ _ _ us hl=>by obtain⟨_,_,rfl⟩:=VS.b4Z hl;rfl) (λfa c A outer s H hr=>J0 ma hr (i8 (a2y (kt:=rp) (by exact hr.units) (PX.newf (f8 2)) (c9 0)) (i8 (f8 1) n6))) (hfl:=(R7 (R7 a5Q))))) ((N4 1).trans (N4 2)) l9))))
def a9p:EvS:=(i9 (sEx (eCl v5 (b8 (b7 0) i5))) (i9 (m4 1 (eCl z0 (b8 (b7 0) i5))) (p6 (n8 (iI (iL (a5O rp (eCl S6 (b8 (eCl F7 (b8 (b7 0) i5)) i5))))) [1] pt1 (tB (e2 (Z4 rp rp) (b7 0) (b7 1))) (eI (W1 (b7 0)))))))
def Y7:=fnD [.f] 1 a9p
abbrev a9q(B:Bk P w K mg base)(k:Nat):=HB B "stuck" k ["machine"] (spD K 1 Y7 (.l (.l .i)))
def b3n(B:Bk P w K mg base)(eF:G7 B 5)(iN:a1D B 5)(gy:U7 B 5):a9q B 6:=
 u5 B.d14 λ_ _ F=>fnF F ["machine","told"] λsc _ _ _ _ _ _ hr=>by exact c7 (a8U (J0 eF hr (i8 (f8 0) n6))) (c7 (k6 1 (t:=.f) sc.nd (b9 (by exact K1 (u:=.f) gy hr (o6 (PX.newf (f8 0)) (P0)) (hfl:=(j8 E6))))) (g8 (k8 (b9 (a0F rfl (tn:=["states"]) (ys:=["told"]) (js:=[1]) (m:=.i) (PIX.i (C9 (PX.frz (b2C rp B.sorted_ (J0 iN hr (i8 (G6 B.len_ (f8 0)) n6)))))) rfl (λ_ _ _ _ _=>A9 (i:=0) c1M rfl (cg rfl) (.inr rfl)) K9 (.inl rfl) a8T rfl (λ_ _ _ _ _=>a7Q (a5I (kt:=rp) (Y2 (by exact hr.units)) (c9 0) (f8 1))) (λ_ _ _ _ _=>(MkL.i (a5A B.list_ (PX.newi (c9 0))))))))))
def b_law_whole:EvS:=(p6 (b1G (e1 (λd=>cz (.bool (isInt d))) (b7 0)) (b4t (e1 (λd=>cz (.bool (isBool d))) (b7 0)))))
def m_law_whole:=fnD [.f] 0 b_law_whole
abbrev a2h(B:Bk P w K mg base)(k:Nat):=HB B "_law_whole" k ["_law_found"] (spD K 1 m_law_whole .i)
def ok_law_whole(B:Bk P w K mg base):a2h B 1:=
 u5 B.d15 λ_ _ F=>fnF F ["_law_found"] λ_ _ _ _ _ _ _ _=>by exact g8 (k8 (b9 (b1I (a5z b4x B.isinstance_ B.int_ PyProof.Rows.Boot.«int» (f8 0)) (b1H (b7e (a5z b1O B.isinstance_ B.bool_ PyProof.Rows.Boot.«bool» (f8 0)))))))
def b_law_are_sets:EvS:=(i9 (sIf (tNo (tV (e1 (λd=>cz (.bool (isList d))) (b7 0)))) (p6 (eC (.bool xn))) x0) (i9 (F8 (iR (eCl F7 (b8 (b7 0) i5))) (u8 2) (i9 (sIf (a5t (tNo (tV (e1 (λd=>cz (.bool (isList d))) (e2 dIx (b7 0) (b7 2))))) (tB (e2 dLt (eCl F7 (b8 (e2 dIx (b7 0) (b7 2)) i5)) (eC (.int 2))))) (p6 (eC (.bool xn))) x0) (i9 (F8 (iR (eCl F7 (b8 (e2 dIx (b7 0) (b7 2)) i5))) (u8 3) (i9 (sIf (a5t (tNo (tV (eCl m_law_whole (b8 (e2 C4 (e2 dIx (b7 0) (b7 2)) (b7 3)) i5)))) (tNo (tB (eCh dLe dLt (eC (.int 0)) (e2 C4 (e2 dIx (b7 0) (b7 2)) (b7 3)) (b7 1))))) (p6 (eC (.bool xn))) x0) (sIf (tAn (tB (e2 dGt (b7 3) (eC (.int 0)))) (tB (e2 dGe (e2 C4 (e2 dIx (b7 0) (b7 2)) (e2 a1j (b7 3) (eC (.int 1)))) (e2 C4 (e2 dIx (b7 0) (b7 2)) (b7 3))))) (p6 (eC (.bool xn))) x0))) (sIf (tAn (tB (e2 dGt (b7 2) (eC (.int 0)))) (tB (e2 b5r (e2 dIx (b7 0) (e2 a1j (b7 2) (eC (.int 1)))) (e2 dIx (b7 0) (b7 2))))) (p6 (eC (.bool xn))) x0)))) (p6 (eC (.bool rp)))))
def m_law_are_sets:=fnD [.f,.i] 2 b_law_are_sets
abbrev X0(B:Bk P w K mg base)(k:Nat):=HB B "_law_are_sets" k ["_law_found","_law_n"] (spD K 2 m_law_are_sets .i)
def ok_law_are_sets(B:Bk P w K mg base)(kj:a2h B 1):X0 B 2:=
 u5 B.d16 λ_ _ F=>fnF F ["_law_found","_law_n","_law_k","_law_j"] λsc _ _ _ _ _ _ hr=>by exact c7 (v9 (M':=[mdF,mdI,mdD,mdD]) (X5 (X4 (a5z a6r B.isinstance_ B.list_ PyProof.Rows.Boot.«list» (f8 0)))) (g8 (k8 (b9 O3))) q8) (c7 (E4 (M:=[mdF,mdI,mdD,mdD]) (MB:=[mdF,mdI,mdI,mdD]) rfl bZ (A1 B.range_ (G6 B.len_ (f8 0))) (D4 2 sc.nd) E3 a5C (PSsX.weak (M2:=[mdF,mdI,mdI,mdD]) (c7 (v9 (M':=[mdF,mdI,mdI,mdD]) (PWX.pt (a5v (X5 (X4 (a5z a6r B.isinstance_ B.list_ PyProof.Rows.Boot.«list» (J3 (PX.newf (f8 0)) (c9 2))))) (a2u (m6 a6o (G6 B.len_ (J3 (PX.newf (f8 0)) (c9 2))) c8)))) (g8 (k8 (b9 O3))) q8) (c7 (E4 (M:=[mdF,mdI,mdI,mdD]) (MB:=[mdF,mdI,mdI,mdI]) rfl bZ (A1 B.range_ (G6 B.len_ (J3 (PX.newf (f8 0)) (c9 2)))) (D4 3 sc.nd) E3 a5C (PSsX.weak (M2:=[mdF,mdI,mdI,mdI]) (c7 (v9 (M':=[mdF,mdI,mdI,mdI]) (PWX.pt (a5v (X5 (X4 (J0 kj hr (i8 (A8 (J3 (PX.newf (f8 0)) (c9 2)) (c9 3)) n6)))) (a2u (X5 (a9Q b9j a6o c8 (A8 (J3 (PX.newf (f8 0)) (c9 2)) (c9 3)) (c9 1)))))) (g8 (k8 (b9 O3))) q8) (g8 (v9 (M':=[mdF,mdI,mdI,mdI]) (PWX.pt (a5u (m6 b1B (c9 3) c8) (a2R (m6 b9k (A8 (J3 (PX.newf (f8 0)) (c9 2)) (i7 T7 (c9 3) c8)) (A8 (J3 (PX.newf (f8 0)) (c9 2)) (c9 3)))))) (g8 (k8 (b9 O3))) q8))) l9 (l6 3))) (g8 (v9 (M':=[mdF,mdI,mdI,mdD]) (PWX.pt (a5u (m6 b1B (c9 2) c8) (a2R (m6 (b8l (by exact hr.units)) (J3 (PX.newf (f8 0)) (i7 T7 (c9 2) c8)) (J3 (PX.newf (f8 0)) (c9 2)))))) (g8 (k8 (b9 O3))) q8)))) l9 (l6 2))) (g8 (k8 (b9 O3))))
def b_law_shut_by:EvS:=(i9 (m4 4 (eC (.dict []))) (i9 (F8 (iI (iT (b7 2))) (u8 5) (i9 (a4v 6 7 (e2 C4 (e2 dIx (b7 0) (b7 5)) (b7 3))) (i9 (sIf (tB (e2 (dIn rp xn) (b7 6) (b7 4))) (z7 4 xn (b7 6) (P7 i5)) x0) (i9 (sIf (tB (e2 (b0s xn) (b7 7) (e2 (b0c xn) (b7 4) (b7 6)))) (p6 (eC (.bool rp))) x0) (a4F 4 xn (b7 6) (b7 7)))))) (i9 (F8 (iI (iDk (b7 4))) (u8 6) (sIf (tB (e2 (Z4 xn rp) (H9 (a4z (e2 (Z5 xn) (b7 4) (b7 6)))) (b7 1))) (p6 (eC (.bool rp))) x0)) (p6 (eC (.bool xn))))))
def m_law_shut_by:=fnD [.f,.f,.i,.i] 4 b_law_shut_by
abbrev a0d(B:Bk P w K mg base)(k:Nat):=HB B "_law_shut_by" k ["_law_table","_law_known","_law_one","_law_ask"] (spD K 4 m_law_shut_by .i)
def ok_law_shut_by(B:Bk P w K mg base):a0d B 1:=
 u5 B.d17 λ_ _ F=>fnF F ["_law_table","_law_known","_law_one","_law_ask","_law_came","_law_s","_law_answer_here","_law_to"] λsc _ _ _ _ _ _ hr=>by exact c7 (k6 4 (t:=(.d xn (.l .i))) sc.nd (b9 (Q8 xn (.l .i)))) (c7 (E4 (M:=[mdF,mdF,mdI,mdI,.own (.d xn (.l .i)),mdD,mdD,mdD]) (MB:=[mdF,mdF,mdI,mdI,.own (.d xn (.l .i)),mdI,mdD,mdD]) rfl bZ (PIX.i (b4A (PX.newi (c9 2)))) (D4 5 sc.nd) E3 a7S (PSsX.weak (M2:=[mdF,mdF,mdI,mdI,.own (.d xn (.l .i)),mdI,mdI,mdI]) (c7 (b4B 6 7 (t:=.i) (u1:=.i) (u2:=.i) sc.nd rfl (b9 (A8 (J3 (PX.newf (f8 0)) (c9 5)) (c9 3))) (.inr (.inl ⟨rfl,rfl,rfl⟩)) (hg1:=J7 (D4 6 sc.nd) (J7 (D4 7 sc.nd) a2s))) (c7 (v9 (M':=[mdF,mdF,mdI,mdI,.own (.d xn (.l .i)),mdI,mdI,mdI]) (b7J (kt:=xn) (u:=(.l .i)) (Y2 (by exact hr.units)) (c9 6) (A7 4 (u:=(.d xn (.l .i))))) (g8 (a2w 4 (kt:=xn) (u:=(.l .i)) (by exact hr.units) (c9 6) (b9 (K4 (n:=0) (u:=.i) u7)))) q8) (c7 (v9 (M':=[mdF,mdF,mdI,mdI,.own (.d xn (.l .i)),mdI,mdI,mdI]) (m6 (b7U (by exact hr.units)) (c9 7) (b7L (kt:=xn) (u:=(.l .i)) (by exact hr.units) (A7 4 (u:=(.d xn (.l .i)))) (c9 6))) (g8 (k8 (b9 O3))) q8) (g8 (b5a 4 (kt:=xn) (by exact hr.units) (c9 6) (PX.newi (c9 7))))))) l9 (((l6 5).trans (l6 6)).trans (l6 7)))) (c7 (PSX.weak (M1:=[mdF,mdF,mdI,mdI,mdF,mdD,mdD,mdD]) (E4 (M:=[mdF,mdF,mdI,mdI,mdF,mdD,mdD,mdD]) (MB:=[mdF,mdF,mdI,mdI,mdF,mdD,mdI,mdD]) rfl bZ (PIX.i (a6T (PX.newf (f8 4)))) (D4 6 sc.nd) E3 a7S (PSsX.weak (M2:=[mdF,mdF,mdI,mdI,mdF,mdD,mdI,mdD]) (g8 (v9 (M':=[mdF,mdF,mdI,mdI,mdF,mdD,mdI,mdD]) (a5I (kt:=rp) (a5D (by exact hr.units)) (W2 B.tuple_ (b0h B.sorted_ (a2y (kt:=xn) (by exact hr.units) (PX.newf (f8 4)) (c9 6)))) (f8 1)) (g8 (k8 (b9 O3))) q8)) l9 (l6 6))) (N4 4) l9) (g8 (k8 (b9 O3)))))
def a5X(rc:List D->Option D):EvS:=(i9 (sIf (tB (e2 dEq (eCl b2g (b8 (b7 2) i5)) (eC (.int 1)))) (p6 (e2 C4 (a5H (b7 2)) (eC (.int 0)))) x0) (i9 (m4 3 (e2 (Z5 rp) (b7 1) (H9 (K5 xn (b7 2))))) (i9 (m4 4 (eCl x8 (b8 (b7 0) (b8 (b7 2) (b8 (b7 3) i5))))) (i9 (m4 5 (P7 i5)) (i9 (F8 (iI (iL (K5 xn (b7 4)))) (u8 6) (O1 5 (.l .f) B9 (Z3 (b8 (b7 6) (b8 (eCl rc (b8 (b7 0) (b8 (b7 1) (b8 (e2 (Z5 xn) (b7 4) (b7 6)) i5)))) i5))))) (p6 (Z3 (b8 (b7 3) (b8 (b7 5) i5)))))))))
def L4:Nat->List D->Option D
 |0=>λ_=>p4
 |n+1=>fnD [.f,.f,.f] 4 (a5X (L4 n))
abbrev b5A(B:Bk P w K mg base)(k:Nat):=HB B "grown" k ["machine","asks","begun"] (spD K 3 (L4 121) .f)
def b3o(B:Bk P w K mg base)(oJ:W9 B 1):∀n:Nat,Has P w K mg base "grown" (2+n) ["machine","asks","begun"] (spD K 3 (L4 n) .f):=by
 intro n
 induction n with
 |zero=>exact u5 B.d18 λ_ _ _=>b5i
 |succ n lh=>
  have gI:=oJ.up (show 1<=2+n by lia);exact u5 B.d18 λ_ _ F=>fnF F ["machine","asks","begun","ask","parts","branches","answer"] λsc _ _ _ _ _ _ hr=>by exact c7 (v9 (M':=[mdF,mdF,mdF,mdD,mdD,mdD,mdD]) (m6 O0 (b3b B.len_ (f8 2)) c8) (g8 (k8 (b9 (PX.itof (A8 (b2n rfl B.list_ (f8 2)) c8))))) q8) (c7 (k6 3 (t:=.f) sc.nd (b9 (a2y (kt:=rp) (by exact hr.units) (PX.newf (f8 1)) (W2 B.tuple_ (a3m xn rfl B.sorted_ (f8 2)))))) (c7 (k6 4 (t:=.f) sc.nd (b9 (by exact K1 (u:=.f) gI hr (o6 (PX.newf (f8 0)) (o6 (PX.newf (f8 2)) (o6 (PX.newf (f8 3)) (P0)))) (hfl:=(j8 (j8 (j8 E6))))))) (c7 (k6 5 (t:=(.l .f)) sc.nd (b9 (K4 (n:=0) (u:=.f) u7))) (c7 (E4 (M:=[mdF,mdF,mdF,mdF,mdF,.own (.l .f),mdD]) (MB:=[mdF,mdF,mdF,mdF,mdF,.own (.l .f),mdI]) rfl bZ (PIX.i (C9 (PX.frz (a3m xn rfl B.sorted_ (f8 4))))) (D4 6 sc.nd) E3 a7S (PSsX.weak (M2:=[mdF,mdF,mdF,mdF,mdF,.own (.l .f),mdI]) (g8 (U0 5 (u:=(.l .f)) (t:=.f) (L1 5 (u:=(.l .f))) (b9 (PX.frz (b1L (us:=[.i,.f]) (C8 (u:=.i) (PX.newi (c9 6)) (C8 (u:=.f) (by exact K1 (u:=.f) lh hr (o6 (PX.newf (f8 0)) (o6 (PX.newf (f8 1)) (o6 (a2y (kt:=xn) (by exact hr.units) (PX.newf (f8 4)) (c9 6)) (P0)))) (hfl:=(j8 (j8 (j8 E6))))) u7))))) a0H)) l9 (l6 6))) (g8 (PSX.weak (M1:=[mdF,mdF,mdF,mdF,mdF,mdF,mdD]) (k8 (b9 (PX.frz (b1L (us:=[.f,.f]) (C8 (u:=.f) (PX.newf (f8 3)) (C8 (u:=.f) (PX.newf (f8 5)) u7)))))) (N4 5) l9))))))
def a0e:EvS:=(i9 (m4 2 (eCl z0 (b8 (b7 0) i5))) (i9 (sIf (tB (e2 (Z4 rp rp) (H9 (b7 1)) (b7 2))) (p6 (eC .none)) x0) (p6 (eCl (L4 121) (b8 (b7 0) (b8 (b7 2) (b8 (K2 rp (b7 1) (b7 1)) i5)))))))
def A6:=fnD [.f,.f] 1 a0e
abbrev a0f(B:Bk P w K mg base)(k:Nat):=HB B "tree_of_set" k ["machine","states"] (spD K 2 A6 .f)
def a3C(B:Bk P w K mg base)(gy:U7 B 123)(lh:b5A B 123):a0f B 124:=
 u5 B.d19 λ_ _ F=>fnF F ["machine","states","asks"] λsc _ _ _ _ _ _ hr=>by exact c7 (k6 2 (t:=.f) sc.nd (b9 (by exact K1 (u:=.f) gy hr (o6 (PX.newf (f8 0)) (P0)) (hfl:=(j8 E6))))) (c7 (v9 (M':=[mdF,mdF,mdF]) (a5I (kt:=rp) (Y2 (by exact hr.units)) (W2 B.tuple_ (f8 1)) (f8 2)) (g8 (k8 (b9 (PX.itof T8)))) q8) (g8 (k8 (b9 (by exact K1 (u:=.f) lh hr (o6 (PX.newf (f8 0)) (o6 (PX.newf (f8 2)) (o6 (PX.frz (a3u rp rfl (by exact hr.units) B.dict_ B.zip_ (PX.newf (f8 1)) (PX.newf (f8 1)))) (P0)))) (hfl:=(j8 (j8 (j8 E6)))))))))
def a0W:EvS:=(p6 (a5P (eCl F7 (b8 (b7 0) i5))))
def L5:=fnD [.f] 0 a0W
abbrev a0X(B:Bk P w K mg base)(k:Nat):=HB B "all_states" k ["machine"] (spD K 1 L5 (.l .i))
def a4h(B:Bk P w K mg base):a0X B 1:=
 u5 B.d20 λ_ _ F=>fnF F ["machine"] λ_ _ _ _ _ _ _ _=>by exact g8 (k8 (b9 (b2F rfl B.list_ B.range_ (G6 B.len_ (f8 0)))))
def b3p:EvS:=(i9 (sEx (eCl v5 (b8 (b7 0) i5))) (p6 (eCl A6 (b8 (b7 0) (b8 (eCl L5 (b8 (b7 0) i5)) i5)))))
def a3D:=fnD [.f] 0 b3p
abbrev b3q(B:Bk P w K mg base)(k:Nat):=HB B "tree" k ["machine"] (spD K 1 a3D .f)
def b5B(B:Bk P w K mg base)(eF:G7 B 124)(jl:a0f B 124)(jI:a0X B 124):b3q B 125:=
 u5 B.d21 λ_ _ F=>fnF F ["machine"] λ_ _ _ _ _ _ _ hr=>by exact c7 (a8U (J0 eF hr (i8 (f8 0) n6))) (g8 (k8 (b9 (by exact K1 (u:=.f) jl hr (o6 (PX.newf (f8 0)) (o6 (PX.frz (J0 jI hr (i8 (f8 0) n6))) (P0))) (hfl:=(j8 (j8 E6)))))))
def b_law:EvS:=(i9 (m4 1 (eCl m_law_machine (b8 (b7 0) (b8 (eC (.int 5)) (b8 (eC (.int 7)) i5))))) (i9 (m4 2 (eCl F7 (b8 (b7 1) i5))) (i9 (m4 3 (n8 (iL (b7 1)) [] pt1 tT (eI (W1 (b7 0))))) (i9 (m4 4 (eCl Y7 (b8 (b7 3) i5))) (i9 (sIf (a5t (tB (e2 dNe (b7 3) (b7 1))) (tNo (tV (eCl m_law_are_sets (b8 (b7 4) (b8 (b7 2) i5)))))) (p6 (eC (.bool xn))) x0) (i9 (m4 5 (eC (.dict []))) (i9 (F8 (iL (b7 4)) (u8 6) (z7 5 rp (H9 (b7 6)) (eC (.bool rp)))) (i9 (F8 (iI (iDk (b7 5))) (u8 6) (F8 (iR (eCl F7 (b8 (e2 dIx (b7 1) (eC (.int 0))) i5))) (u8 7) (sIf (tNo (tV (eCl m_law_shut_by (b8 (b7 1) (b8 (b7 5) (b8 (b7 6) (b8 (b7 7) i5))))))) (p6 (eC (.bool xn))) x0))) (i9 (sIf (a5t (tB (e2 dNe (e2 (Z4 xn rp) (b3c (b7 2)) (b7 5)) (e2 dNe (b7 4) (P7 i5)))) (tB (e2 dNe (e2 (Z2 xn) (eCl a3D (b8 (b7 3) i5)) (eC .none)) (e2 dNe (b7 4) (P7 i5))))) (p6 (eC (.bool xn))) x0) (i9 (m4 8 (n8 (iL (b7 4)) [] pt1 tT (eI (W1 (b7 0))))) (i9 (b4S 4 (b7V (b2s (b7 2)))) (i9 (sIf (tB (e2 dNe (b7 4) (n8 (iL (b7 8)) [2] pt1 tT (eI (a5B (b7 0) (P7 (b8 (b7 1) i5))))))) (p6 (eC (.bool xn))) x0) (i9 (O1 4 (.l (.l .i)) B9 (P7 (b8 (b7 2) i5))) (p6 (b1G (e2 dEq (eCl Y7 (b8 (b7 3) i5)) (b7 8)) (e2 dEq (b7 3) (b7 1)))))))))))))))))
def m_law:=fnD [.f] 8 b_law
def ok_law(B:Bk P w K mg base)(jo:a0a B 125)(mw:a9q B 125)(iV:X0 B 125)(jn:a0d B 125)(pJ:b3q B 125)(F:Fun K "law" "law" (top 31) f fd):FnOk P w K mg base CX0 126 f fd ["_law_script"] (spD K 1 m_law .i):=
 fnF F ["_law_script","_law_table","_law_n","_law_handed","_law_found","_law_known","_law_one","_law_ask","_law_kept"] λsc _ _ _ _ _ _ hr=>by exact c7 (k6 1 (t:=(.l (.l .i))) sc.nd (b9 (J0 jo hr (i8 (f8 0) (i8 c8 (i8 c8 n6)))))) (c7 (k6 2 (t:=.i) sc.nd (b9 (G6 B.len_ (A7 1 (u:=(.l (.l .i))))))) (c7 (PSX.weak (M1:=[mdF,mdF,mdI,mdD,mdD,mdD,mdD,mdD,mdD]) (a0j 3 (t:=(.l .i)) sc.nd rfl (tn:=["_law_row"]) (ys:=[]) (js:=[]) (mm:=.f) (C9 (PX.newf (f8 1))) rfl (λ_ _ _ _ _=>A9 (i:=0) c1N rfl (cg rfl) (.inr rfl)) K9 (.inr rfl) a6t rfl (λ_ _ _ _ _=>X6) (λ_ _ _ _ _=>(MkL.i (a5A B.list_ (PX.newf (f8 0)))))) (N4 1) l9) (c7 (k6 4 (t:=(.l (.l .i))) sc.nd (b9 (J0 mw hr (i8 (A7 3 (u:=(.l (.l .i)))) n6)))) (c7 (v9 (M':=[mdF,mdF,mdI,C6,C6,mdD,mdD,mdD,mdD]) (PWX.pt (a5v (m6 a1C (A7 3 (u:=(.l (.l .i)))) (f8 1)) (a2u (X5 (X4 (J0 iV hr (i8 (A7 4 (u:=(.l (.l .i)))) (i8 (c9 2) n6)))))))) (g8 (k8 (b9 O3))) q8) (c7 (k6 5 (t:=(.d rp .i)) sc.nd (b9 (Q8 rp .i))) (c7 (b5o 4 6 5 (kt:=rp) (by exact hr.units) rfl bZ sc.nd (W2 B.tuple_ (f8 6)) (b9 O3)) (c7 (PSX.weak (M1:=[mdF,mdF,mdI,C6,C6,mdF,mdD,mdD,mdD]) (E4 (M:=[mdF,mdF,mdI,C6,C6,mdF,mdD,mdD,mdD]) (MB:=[mdF,mdF,mdI,C6,C6,mdF,mdI,mdD,mdD]) rfl bZ (PIX.i (a6T (PX.newf (f8 5)))) (D4 6 sc.nd) E3 a7S (PSsX.weak (M2:=[mdF,mdF,mdI,C6,C6,mdF,mdI,mdD,mdD]) (g8 (E4 (M:=[mdF,mdF,mdI,C6,C6,mdF,mdI,mdD,mdD]) (MB:=[mdF,mdF,mdI,C6,C6,mdF,mdI,mdI,mdD]) rfl bZ (A1 B.range_ (G6 B.len_ (J3 (PX.newf (f8 1)) c8))) (D4 7 sc.nd) E3 a5C (PSsX.weak (M2:=[mdF,mdF,mdI,C6,C6,mdF,mdI,mdI,mdD]) (g8 (v9 (M':=[mdF,mdF,mdI,C6,C6,mdF,mdI,mdI,mdD]) (X5 (X4 (J0 jn hr (i8 (f8 1) (i8 (f8 5) (i8 (c9 6) (i8 (c9 7) n6))))))) (g8 (k8 (b9 O3))) q8)) l9 (l6 7)))) l9 (l6 6))) (N4 5) l9) (c7 (v9 (M':=[mdF,mdF,mdI,C6,C6,mdF,mdD,mdD,mdD]) (PWX.pt (a5v (m6 a1C (b2p (kt:=rp) (a5D (by exact hr.units)) (b5p rfl B.tuple_ B.range_ (c9 2)) (f8 5)) (a2Q a1C (A7 4 (u:=(.l (.l .i)))) (K4 (n:=0) (u:=.i) u7))) (a2u (m6 a1C (a2Q b1F (b2o pJ hr (i8 (A7 3 (u:=(.l (.l .i)))) n6) (hfl:=(j8 E6))) T8) (a2Q a1C (A7 4 (u:=(.l (.l .i)))) (K4 (n:=0) (u:=.i) u7)))))) (g8 (k8 (b9 O3))) q8) (c7 (a6E 8 (t:=(.l .i)) (M0:=[mdF,mdF,mdI,mdF,mdF,mdF,mdD,mdD,mdD]) rfl sc.nd rfl (tn:=["_law_one"]) (ys:=[]) (js:=[]) (mm:=.f) (C9 (PX.newf (f8 4))) rfl (λ_ _ _ _ _=>A9 (i:=0) c1O rfl (cg rfl) (.inr rfl)) K9 (.inr rfl) a6t rfl (λ_ _ _ _ _=>X6) (λ_ _ _ _ _=>(MkL.i (a5A B.list_ (PX.newf (f8 0)))))) (c7 (b5q 4 (jy:=6) (t:=.i) (M:=[mdF,mdF,mdI,C6,C6,mdF,mdD,mdD,C6]) b4R rfl bZ sc.nd (PX.newi (c9 2))) (c7 (PSX.weak (M1:=[mdF,mdF,mdI,C6,C6,mdF,mdD,mdD,mdF]) (v9 (M':=[mdF,mdF,mdI,C6,C6,mdF,mdD,mdD,mdF]) (m6 a1C (A7 4 (u:=(.l (.l .i)))) (a0F rfl (tn:=["_law_one"]) (ys:=["_law_n"]) (js:=[2]) (m:=.f) (C9 (PX.newf (f8 8))) rfl (λ_ _ _ _ _=>A9 (i:=0) c1P rfl (cg rfl) (.inr rfl)) K9 (.inr rfl) a6t rfl (λ_ _ _ _ _=>X6) (λ_ _ _ _ _=>(MkL.i (b1T (PX.newf (f8 0)) (K4 (n:=1) (u:=.i) (C8 (u:=.i) (PX.newi (c9 1)) u7))))))) (g8 (k8 (b9 O3))) q8) (N4 8) l9) (c7 (U0 4 (u:=(.l (.l .i))) (t:=(.l .i)) (L1 4 (u:=(.l (.l .i)))) (b9 (K4 (n:=1) (u:=.i) (C8 (u:=.i) (PX.newi (c9 2)) u7))) a0H) (g8 (k8 (b9 (b1I (a2Q O0 (J0 mw hr (i8 (A7 3 (u:=(.l (.l .i)))) n6)) (f8 8)) (b1H (a2Q O0 (A7 3 (u:=(.l (.l .i)))) (f8 1)))))))))))))))))))
end Prog
namespace VS
open PySem L2
abbrev Ky:=List (Int×Int)
def snoc_ind{P:List α->Prop}(h0:P [])(h1:∀l x,P l->P (l++[x]))(l:List α):P l:=by
 have h:∀r:List α,P r.reverse:=by
  intro r
  induction r with
  |nil=>exact h0
  |cons x r ih=>rw[kJ];exact h1 _ _ ih
 have:=h l.reverse
 rwa[List.reverse_reverse]at this
def c1Q(seen:List Ky)(x:Ky):List Ky:=if x∈seen then seen else seen++[x]
def ded(ks:List Ky):List Ky:=ks.foldl c1Q []
def c1R(ks:List Ky):List Int:=ks.map λx=>(((ded ks).idxOf x:Nat):Int)
def rn(r:Ky)(ls:List Int):Ky:=r.map λp=>(p.1,ls.getD p.2.toNat 0)
def lvl(m:m7):Nat->List Int
 |0=>m.map λ_=>0
 |d+1=>c1R (m.map λr=>rn r (lvl m d))
def kf(m:m7):Nat->Ky->Ky
 |0,_=>[]
 |d+1,r=>rn r (lvl m d)
def cls(m:m7)(d:Nat):Nat:=(ded (m.map (kf m d))).length
def lv(m:m7)(d:Nat)(s:Int):Int:=(lvl m d).getD s.toNat 0
def fp:Ky->Ky->Nat
 |x::xs,y::ys=>if x=y then fp xs ys+1 else 0
 |_,_=>0
def fa(m:m7)(d:Nat)(s t:Int):Int:=(fp (rn (rowAt m s) (lvl m d)) (rn (rowAt m t) (lvl m d)):Nat)
theorem a9r{I:Nat->List D->Prop}{Q:List D->Prop}(B:Nat)(step:∀j U,I j U->j<=B/\((c U=cz xn/\Q U)\/(c U=cz rp/\∃U',g U=cz (.nx U')/\I (j+1) U'))):∀n j U,I j U->B<n+j->∃U',whL c g n U=cz (.nx U')/\Q U'
 |0,j,U,h,hn=>absurd (step j U h).1 (by lia)
 |n+1,j,U,h,hn=>by
  rcases (step j U h).2 with⟨e,q⟩|⟨e,U',e2,h2⟩
  ·refine⟨U,?_,q⟩;show (c U).bind _=_;rw[e];rfl
  ·obtain⟨U2,e3,q⟩:=a9r B step n (j+1) U' h2 (by lia);refine⟨U2,?_,q⟩;show (c U).bind _=_;rw[e];show (g U).bind _=_;rw[e2];exact e3
def c1S:sWh (λ_=>n) c g U=whL c g n U:=rfl
def c1T(x:Ky):D:=.tuple (x.map stD)
def dz:List Ky->Nat->List (D×D)
 |[],_=>[]
 |x::xs,i=>(c1T x,.int i)::dz xs (i+1)
theorem a1F(p:α->Bool)(f:α->D):∀{xs:List α},(∀x∈xs,∃bs,pt (enc x)=cz bs/\t (bs++cs)=cz (p x)/\(p x=rp->g (bs++cs)=cz (f x)))->O4 pt t g cs (xs.map enc)=cz ((xs.filter p).map f)
 |[],_=>rfl
 |x::xs,h=>by
  obtain⟨bs,h1,h2,h3⟩:=h x av;have ih:=a1F p f (xs:=xs) λe he=>h e (aw _ he)
  show (pt (enc x)).bind _=_;rw[h1];show (t (bs++cs)).bind _=_;rw[h2];cases c:p x with
  |true=>
   rw[e_ c];show (g (bs++cs)).bind _=_;rw[h3 c];show (O4 pt t g cs (xs.map enc)).bind _=_;rw[ih];rfl
  |false=>
   rw[fg (by rw[c];decide)];exact ih
def b5C{js:List Nat}(p:Nat->Bool)(f:Nat->D)(hf:fi U=cz (B8 0 n))(hl:n<=1000000)(h:∀k:Nat,k<n->t (.int k::js.map λj=>U.getD j .none)=cz (p k)/\(p k=rp->g (.int k::js.map λj=>U.getD j .none)=cz (f k))) :
  n8 fi js pt1 t g U=cz (.list (((aU n).filter p).map f)):=by
 unfold n8;rw[hf];show (if (B8 0 n).length<=1000000 then _ else p4)=_;rw[aC (by rw[a7T];exact hl),Y6,a1F (enc:=λ(k:Nat)=>aJ k) p f]
 ·rfl
 ·intro x hx;have:=h x (cw.mp hx);exact⟨[.int x],rfl,this.1,this.2⟩
def b0W{l:List Int}(h:i<l.length):l.getD i 0∈l:=by
 rw[aB,ai h];exact dt _
theorem a4R(f:α->D):∀{xs:List α},(∀x∈xs,∃bs,pt (enc x)=cz bs/\g (bs++cs)=cz (f x))->O4 pt tT g cs (xs.map enc)=cz (xs.map f)
 |[],_=>rfl
 |x::xs,h=>by
  obtain⟨bs,h1,h2⟩:=h x av;have ih:=a4R f (xs:=xs) λe he=>h e (aw _ he)
  show (pt (enc x)).bind _=_;rw[h1];show (g (bs++cs)).bind _=_;rw[h2];show (O4 pt tT g cs (xs.map enc)).bind _=_;rw[ih];rfl
def a0Y{js:List Nat}{xs:List α}(f:α->D)(hf:fi U=cz (xs.map enc))(hl:xs.length<=1000000)(h:∀x∈xs,∃bs,pt (enc x)=cz bs/\g (bs++js.map λj=>U.getD j .none)=cz (f x)) :
  n8 fi js pt tT g U=cz (.list (xs.map f)):=by
 unfold n8;rw[hf];show (if (xs.map enc).length<=1000000 then _ else p4)=_;rw[aC (by rw[ag];exact hl),a4R f h];rfl
def c1U(h:a U=cz (.list ds)):iEn a U=cz (N5 ds 0):=by
 unfold iEn;rw[h];rfl
section
variable {β α:Type}[DecidableEq β]
def dd1(W:List (β×α))(c:β×α):List (β×α):=if c.1∈W.map (·.1) then W else W++[c]
def dd(W C:List (β×α)):List (β×α):=C.foldl dd1 W
variable {W C C':List (β×α)}{c:β×α}{t:β}
end
def a2i{n:Nat}:∀{l:List Int},l.Nodup->(∀x∈l,0<=x/\x<(n:Int))->l.length<=n:=by
 induction n with
 |zero=>
  intro l _ h;cases l with
  |nil=>exact ay _
  |cons x l=>have:=h x (by simp);lia
 |succ n ih=>
  intro l hd h;have h1:=ih (l:=l.erase (n:Int)) (hd.erase _) λx hx=>by
   have h2:=(List.Nodup.mem_erase_iff hd).mp hx;have:=h x h2.2;have:=h2.1;lia
  have h2:=List.length_erase (a:=(n:Int)) (l:=l);by_cases c:(n:Int)∈l
  ·rw[aC c]at h2;lia
  ·rw[aI c]at h2;lia
def wl:List Int->List Int->Prop
 |a::p,b::q=>a<b\/(a=b/\wl p q)
 |_,_=>False
def bf(p q:List Int):Prop:=p.length<q.length\/(p.length=q.length/\wl p q)
abbrev b0X:=List (Int×List Int)
def c0t(m:m7)(k:Nat)(e:Int×List Int):b0X:=(aU k).map λ(a:Nat)=>((stp m e.1 a).2,e.2++[(a:Int)])
abbrev W0:b0X:=[(0,[])]
abbrev Sor(W:b0X):Prop:=W.Pairwise λa b=>bf a.2 b.2
structure Met (m:m7) (k:Nat) (dn W:b0X):Prop where
 eq:W=dd W0 (dn.flatMap (c0t m k))
 pre:∃nw,W=dn++nw
 sor:Sor W
 ql:∀e∈W,e.2.length<=dn.length
structure AllMet (m:m7) (k:Nat) (W:b0X):Prop where
 eq:W=dd W0 (W.flatMap (c0t m k))
 sor:Sor W
 range:∀e∈W,0<=e.1/\e.1<(m.length:Int)
 ql:∀e∈W,e.2.length<=W.length
section
variable {α:Type}
def kvD(enc:α->D)(W:List (Int×α)):List (D×D):=W.map λe=>(aJ e.1,enc e.2)
variable {enc:α->D}{W:List (Int×α)}{t:Int}{x:α}
def a9s:(kvD enc W).length=W.length:=ag ..
def b5D{V:List (Int×α)}:kvD enc (W++V)=kvD enc W++kvD enc V:=aQ ..
def a2D:w6 (kvD enc W) (.int t)=decide (t∈W.map (·.1)):=by
 induction W with
 |nil=>rfl
 |cons e W ih=>
  show (aH (.int e.1) (.int t)||w6 (kvD enc W) (.int t))=_;rw[a2C,ih];by_cases h1:e.1=t
  ·simp[h1]
  ·have h2:t≠e.1:=λz=>h1 z.symm
   simp[h1,h2]
def b3r(h:t∉W.map (·.1)):n4 (kvD enc W) (.int t) (enc x)=kvD enc (W++[(t,x)]):=by
 unfold n4;rw[a2D,aW h,b5D];rfl
def dKey_i{t:Int}:m9 xn (.int t)=rp:=rfl
def a9t:(kvD enc W).all (λp=>m9 xn p.1)=rp:=by
 unfold kvD;rw[List.all_map,bD];exact λe _=>dKey_i
def b3s:(kvD enc W).map (·.1)=(W.map (·.1)).map aJ:=by unfold kvD;rw[bN,bN];rfl
def b3t:(kvD enc W).map (·.2)=(W.map (·.2)).map enc:=by unfold kvD;rw[bN,bN];rfl
def b8z:dIn neg xn (.int t) (.dict (kvD enc W))=cz (.bool (neg !=decide (t∈W.map (·.1)))):=by
 show (if m9 xn (.int t) then cz (dE (neg !=w6 (kvD enc W) (.int t))) else p4)=_;rw[dKey_i,a2D];rfl
end
def b3u(hv:fv U=cz d)(hk:fk U=cz k)(hd:U.getD i .none=.dict kvs)(hK:m9 kt k=rp)(hl:kvs.length<1000000) :
  z7 i kt fk fv U=cz (.nx (U.set i (.dict (n4 kvs k d)))):=by
 unfold z7;rw[hv];show (fk U).bind _=_;rw[hk];show (match U.getD i .none with|.dict kvs=>_|_=>_)=_;rw[hd];show (if _ then _ else _)=_;rw[aC (by rw[hK,aE hl];rfl)]
def b5E(h:a U=cz (.dict (kvD aJ W))):a5H a U=cz (.list ((W.map (·.2)).map .int)):=by
 unfold a5H;rw[h];show (if _ then _ else _)=_;rw[aC (by rw[a9t,b3t,o8 _ (λ_=>a2v)];rfl),b3t]
section
variable {β:Type}[DecidableEq β]
abbrev a4S(β:Type):=List (β×List Int)
def b6o(nx:β->Nat->β)(k:Nat)(e:β×List Int):a4S β:=(aU k).map λ(a:Nat)=>(nx e.1 a,e.2++[(a:Int)])
abbrev WB(s:β):a4S β:=[(s,[])]
abbrev c0u(W:a4S β):Prop:=W.Pairwise λa b=>bf a.2 b.2
variable {nx:β->Nat->β}{k:Nat}{s:β}
structure MetB (nx:β->Nat->β) (k:Nat) (s:β) (P:β->Prop) (dn W:a4S β):Prop where
 eq:W=dd (WB s) (dn.flatMap (b6o nx k))
 pre:∃nw,W=dn++nw
 sor:c0u W
 ql:∀e∈W,e.2.length<=dn.length
 ok:∀e∈W,P e.1
structure AllB (nx:β->Nat->β) (k:Nat) (s:β) (P:β->Prop) (W:a4S β):Prop where
 eq:W=dd (WB s) (W.flatMap (b6o nx k))
 sor:c0u W
 ql:∀e∈W,e.2.length<=W.length
 ok:∀e∈W,P e.1
end
section
variable {β α:Type}[DecidableEq β]
structure KeyB (kt:Bool) (key:β->D):Prop where
 eqv:∀a b,aH (key a) (key b)=decide (a=b)
 ok:∀a,m9 kt (key a)=rp
 im:∀a,imm (key a)=rp
variable {key:β->D}{enc:α->D}{W:List (β×α)}{t:β}{x:α}{kt:Bool}
end
def b6p(h:argsOk us ds=rp):fnL us n g gm ds=a2V (g gm (ds++(.none::aS n .none))):=by
 unfold fnL;rw[aC h];cases g gm (ds++(.none::aS n .none)) with
 |none=>rfl
 |some o=>cases o<;>rfl
def c0v(h:f U=cz ds):b5h m us js fb f U=m (fnE us (js.map λj=>U.getD j .none) fb) ds:=by
 unfold b5h;rw[h];rfl
def c0w(h:argsOk us ds=rp):fnE us rZ f ds=f (ds++rZ):=aC h
def b6q(h:f U=cz ds):b0G m gm f U=m gm ds:=by
 unfold b0G;rw[h];rfl
def c1V(h:a U=cz (.tuple ds)):iT a U=cz ds:=by
 unfold iT;rw[h];rfl
abbrev PW:=List ((Int×Int)×List Int)
def S9{ns:List Int}{j:Int}(a:0<=j)(b:j<ns.length):L2.atI (ns.map aJ) j=cz (.int (ns.getD j.toNat 0)):=by
 rw[a1q a (by rw[ag];exact b),fI];rw[aB,ai (by lia)];rfl
def a9u{js:List Nat}{xs:List α}(p:α->Bool)(f:α->D)(hf:fi U=cz (xs.map enc))(hl:xs.length<=1000000)(h:∀x∈xs,∃bs,pt (enc x)=cz bs/\t (bs++js.map λj=>U.getD j .none)=cz (p x)/\(p x=rp->g (bs++js.map λj=>U.getD j .none)=cz (f x))) :
  n8 fi js pt t g U=cz (.list ((xs.filter p).map f)):=by
 unfold n8;rw[hf];show (if (xs.map enc).length<=1000000 then _ else p4)=_;rw[aC (by rw[ag];exact hl),a1F p f h];rfl
def Y8{α:Type}{enc:α->D}{set:List D->D->Option (List D)}{g:EvS}{xs:List α}{U:List D}(I:List α->List D->Prop)(R:D->Prop)(h0:I [] U)
  (step:∀pre x post,xs=pre++x::post->∀U,I pre U->∃U1,set U (enc x)=cz U1/\((∃U2,g U1=cz (.nx U2)/\I (pre++[x]) U2)\/∃d,g U1=cz (.rt d)/\R d)) :
  (∃U',Q5 set g (xs.map enc) U=cz (.nx U')/\I xs U')\/∃d,Q5 set g (xs.map enc) U=cz (.rt d)/\R d:=by
 have key:∀(post pre:List α) (U:List D),xs=pre++post->I pre U->(∃U',Q5 set g (post.map enc) U=cz (.nx U')/\I xs U')\/∃d,Q5 set g (post.map enc) U=cz (.rt d)/\R d:=by
  intro post
  induction post with
  |nil=>
   intro pre U e h;rw[bM]at e;subst e;exact .inl ⟨U,rfl,h⟩
  |cons x post ih=>
   intro pre U e h;obtain⟨U1,h1,h2⟩:=step pre x post e U h;rcases h2 with⟨U2,h2,h3⟩|⟨d,h2,h3⟩
   ·rcases ih (pre++[x]) U2 (by rw[e,bg];rfl) h3 with⟨U',h4,h5⟩|⟨d,h4,h5⟩
    ·refine .inl ⟨U',?_,h5⟩;show (set U (enc x)).bind _=_;rw[h1];show (g U1).bind _=_;rw[h2];exact h4
    ·refine .inr ⟨d,?_,h5⟩;show (set U (enc x)).bind _=_;rw[h1];show (g U1).bind _=_;rw[h2];exact h4
   ·refine .inr ⟨d,?_,h3⟩;show (set U (enc x)).bind _=_;rw[h1];show (g U1).bind _=_;rw[h2];rfl
 exact key xs [] U rfl h0
end VS
namespace Prog
open PySem L2 VS
abbrev GA:=List (List Int×List Int)
def g7(a:List Int):D:=.tuple (a.map .int)
def T1(e:Int)(es:List Int):List Int:=if e∈es then es else es++[e]
def a0Z(a b:List Int):aH (g7 a) (g7 b)=decide (a=b):=by
 unfold g7;simp only[aH];exact a7n a b
theorem a2j:∀a:List Int,p8 (a.map aJ)=rp
 |[]=>by simp only[cV,p8]
 |n::a=>by simp only[aA,p8,C2,a2j a,gg]
def a8G(a:List Int):(g7 a).depth<=7:=by
 unfold g7;simp only[gk];have:=L9 aJ 0 (λ_=>by rw[Y5];exact ay _) a;lia
def b0Y(a:List Int):C2 (g7 a)=rp:=by
 unfold g7;simp only[C2];exact a2j a
def T2(a:List Int):m9 rp (g7 a)=rp:=by
 unfold m9;rw[b0Y,aE (a8G a)];rfl
def dKey_i(e:Int):m9 xn (.int e)=rp:=by
 unfold m9;rw[show C2 (.int e)=rp by simp only[C2],show (aJ e).depth=0 from Y5];rfl
def a3E:x∈T1 e es↔x∈es\/x=e:=by
 unfold T1;by_cases c:e∈es
 ·rw[aC c];exact⟨.inl,λh=>h.elim id λz=>z▸c⟩
 ·rw[aI c,az,ak]
structure DdOk (f:Int->List Int×Int) (ss:List Int) (dd:GA):Prop where
 nd:(dd.map (·.1)).Nodup
 keys:∀a,a∈dd.map (·.1)↔∃s∈ss,(f s).1=a
 mem:∀q∈dd,∀e,e∈q.2↔∃s∈ss,f s=(q.1,e)
 nd2:∀q∈dd,q.2.Nodup
 len:dd.length<=ss.length
 b4Z:∀q∈dd,q.2.length<=ss.length
def a3F(es:List Int):List Int:=(W5 (es.map λe=>[e])).map λl=>l.headD 0
def Y9(es:List Int):(a3F es).Perm es:=by
 unfold a3F;refine ((E9 _).map _).trans (Iq ?_);rw[bN];exact g_ es
def a4T(es:List Int):W5 (es.map λe=>[e])=(a3F es).map λe=>[e]:=by
 unfold a3F;rw[bN];have:∀l∈W5 (es.map λe=>[e]),((λe=>[e]) ∘ λl:List Int=>l.headD 0) l=l:=λl hl=>by
  obtain⟨e,_,rfl⟩:=bj.mp ((E9 _).mem_iff.mp hl);rfl
 rw[cL this,g_]
theorem a3G:∀as:List (List Int),a3k rp (as.map g7)=cz as
 |[]=>rfl
 |a::as=>by
  have h:intsOf (a.map aJ)=cz a:=by
   induction a with
   |nil=>rfl
   |cons n a ih=>rw[aA];show (intsOf (a.map aJ)).map (n::·)=_;rw[ih];rfl
  rw[aA];show (intsOf (a.map aJ)).bind _=_;rw[h,bC,a3G as];rfl
theorem a3H:∀es:List Int,a3k xn (es.map aJ)=cz (es.map λe=>[e])
 |[]=>rfl
 |e::es=>by
  rw[aA];show (cz [e]).bind _=_;rw[bC,a3H es];rfl
end Prog
local macro_rules | `(tactic| walk_at "ev")=>`(tactic| simp -implicitDefEqProofs (disch:=first | omega | assumption | decide) only [VS.v_var,VS.v_c,VS.v_1,VS.v_2,VS.c0Y,VS.b7C,VS.b6d,VS.c0Z,VS.c1a,VS.b9B,VS.b9C,VS.b9D,VS.v_and,VS.v_or,VS.v_not,VS.b9E,VS.b6e,VS.b9F,VS.I9,VS.a2W,VS.b9G,VS.c1b,VS.b7D,VS.a6v,VS.b2c,VS.b7E,VS.c0T,VS.c0U,VS.c0V,VS.b4G,VS.c0W,VS.c0X,VS.b7l,VS.b7m,VS.b7n,VS.b9w,VS.b9x,VS.b7o,VS.b7p,VS.b9y,VS.b9z,VS.b7q,VS.b7r,VS.b7s,VS.b7t,VS.b7u,VS.E7,VS.b7v,VS.b7w,VS.b7x,VS.b2b,VS.b7y,VS.b9A,VS.b4H,VS.b7z,VS.b7A,VS.a8W,VS.b7B,VS.v_add,VS.v_sub,VS.v_lt,VS.c1c,VS.c1d,VS.c1e,VS.b9H,VS.b9I,VS.b7F,VS.b7G,VS.b9J,VS.b9K,VS.b9L,VS.b9M,VS.b9N,VS.b2d,VS.v_mod,VS.v_div,VS.c1u,VS.c0a,VS.c0b,VS.trB,VS.c0c,VS.b8n,VS.b3e,VS.b5t,VS.b3f,VS.b3g,VS.b5u,VS.b0T,VS.a8u,VS.a8v,VS.a8w,VS.b0U,VS.b0V,VS.a8x,VS.a8y,VS.a7f,VS.a7g,VS.a7h,VS.a8z,VS.a8A,VS.a7i,VS.isList_list,VS.isList_int,VS.a7j,VS.isList_bool,VS.a8B,VS.isList_str,VS.isList_dict,VS.a7k,VS.isTuple_list,VS.isTuple_int,VS.a4L,VS.a7l,VS.a2B,VS.c0d,VS.c0e,VS.b5v,VS.c1D,VS.a3y,VS.P9,VS.b8o,VS.b8p,VS.c0g,VS.c0h,VS.c1E,VS.at0,VS.at1,VS.c0o,VS.c0p,VS.b8t,VS.b5y,VS.c0q,VS.b5z,List.getD_cons_zero,List.getD_cons_succ,kr,iB,jP,h_,bw,cA,bM,fH,Bool.not_false,ny,ju,Bool.false_and,Bool.and_false,VS.c1v,VS.c1w,VS.c1x,VS.c1y,VS.c1z,VS.c1A,VS.c1B,VS.c1C,decide_true,decide_false,ag,aA,cV])
namespace Prog
open PySem L2 VS
def f6(g:List Int->D)(l:List (List Int)):List (D×D):=l.map λp=>(g7 p,g p)
def a5Y(p:List Int)(l:List (List Int)):List (List Int):=if p∈l then l else l++[p]
section
variable {g:List Int->D}{l:List (List Int)}{a:List Int}
def a3I:(f6 g l).length=l.length:=ag ..
theorem T3(a:List Int):∀l:List (List Int),w6 (f6 g l) (g7 a)=decide (a∈l)
 |[]=>rfl
 |q::l=>by
  have ih:=T3 a l;unfold w6 f6 at ih ⊢;rw[aA,kU,ih,a0Z,dJ];simp only[iw,bW,aF];exact or_congr_left eq_comm
theorem a4U:∀{l:List (List Int)},a∈l->D0 (f6 g l) (g7 a)=cz (g a)
 |[],h=>nomatch h
 |q::l,h=>by
  by_cases c:q=a
  ·unfold D0 f6;rw[aA,iu,a0Z,aE c];subst c;rfl
  ·have ih:=a4U (l:=l) ((aF.mp h).resolve_left λz=>c z.symm);unfold D0 f6 at ih ⊢;rw[aA,iu,a0Z,aW c];exact ih
def b3v:n4 (f6 g l) (g7 a) (g a)=f6 g (a5Y a l):=by
 unfold n4 a5Y;rw[T3];by_cases c:a∈l
 ·rw[aE c,aC rfl,aC c];unfold f6;rw[bN];refine cL λx _=>?_
  show (if aH (g7 x) (g7 a)=rp then (g7 x,g a) else (g7 x,g x))=(g7 x,g x);rw[a0Z];by_cases e:x=a
  ·rw[aE e,aC rfl,e]
  ·rw[aW e,aI bo]
 ·rw[aW c,aI c,aI bo];unfold f6;rw[aQ];rfl
def a2k(l:List (List Int)):keysOk rp (f6 g l)=rp:=by
 unfold keysOk f6;rw[bD];intro p hp;obtain⟨q,_,rfl⟩:=bj.mp hp;exact T2 q
def a4V:(f6 g l).map (·.1)=l.map g7:=by unfold f6;rw[bN];rfl
def a7p:Z4 neg rp (g7 a) (.dict (f6 g l))=cz (.bool (neg !=decide (a∈l))):=by
 show (if m9 rp (g7 a)&&keysOk rp (f6 g l) then cz (dE (neg !=w6 (f6 g l) (g7 a))) else p4)=_;rw[T2,a2k,T3];rfl
def b6r(h:a∈l):Z5 rp (.dict (f6 g l)) (g7 a)=cz (g a):=by
 show (if m9 rp (g7 a)&&keysOk rp (f6 g l) then D0 (f6 g l) (g7 a) else p4)=_;rw[T2,a2k,a4U h];rfl
def b8A(h:f U=cz (.dict (f6 g l)))(hL:D8 (l.map g7)=xn):iDk f U=cz (l.map g7):=by
 unfold iDk;rw[h,bC];show (if D8 ((f6 g l).map (·.1)) then p4 else cz ((f6 g l).map (·.1)))=_;rw[a4V (g:=g),hL];rfl
def a2E(hv:fv U=cz (g a))(hk:fk U=cz (g7 a))(hd:U.getD i .none=.dict (f6 g l))(hl:l.length<1000000):z7 i rp fk fv U=cz (.nx (U.set i (.dict (f6 g (a5Y a l))))):=by
 rw[b3u hv hk hd (T2 a) (by rw[a3I];exact hl),b3v]
end
end Prog
namespace VS
open PySem L2
section
variable {β:Type}[DecidableEq β]{nx:β->Nat->β}{k:Nat}{s:β}{P:β->Prop}{W:a4S β}
def c0x(nx:β->Nat->β)(b:β)(p:List Int):β:=p.foldl (λb a=>nx b a.toNat) b
end
def b3w(Y:List Int)(v x:Int):x∈ef Y v↔x∈Y\/x=v:=by
 unfold ef
 split
 ·rename_i h
  refine⟨.inl,λz=>z.elim id λe=>?_⟩;obtain⟨y,h1,h2⟩:=er.mp h;rw[e,<-rJ.mp h2];exact h1
 ·simp
def b5F{Y:List Int}(v:Int)(h:Y.Nodup):(ef Y v).Nodup:=by
 unfold ef
 split
 ·exact h
 ·rename_i c
  refine bh.mpr ⟨h,by simp,λa ha b hb=>?_⟩;rw[ak.mp hb];rintro rfl;exact c (er.mpr ⟨a,ha,gY a⟩)
theorem a3J:∀(l Y:List Int),(∀x,x∈l.foldl ef Y↔x∈Y\/x∈l)/\(Y.Nodup->(l.foldl ef Y).Nodup)
 |[],Y=>⟨λx=>by simp,id⟩
 |v::l,Y=>by
  obtain⟨h1,h2⟩:=a3J l (ef Y v);refine⟨λx=>?_,λh=>h2 (b5F v h)⟩;rw[qG,h1,b3w,aF]
  constructor
  ·rintro ((a|a)|a)
   ·exact .inl a
   ·exact .inr (.inl a)
   ·exact .inr (.inr a)
  ·rintro (a|a|a)
   ·exact .inl (.inl a)
   ·exact .inl (.inr a)
   ·exact .inr a
def a3K(ns:List Int):(aU ns.length).map (λi=>ns.getD i 0)=ns:=by
 refine GZ (by simp) λi h1 h2=>?_
 simp[aB,ai h2]
def b5G:x∈dis ns↔x∈ns:=by
 unfold dis me;rw[a3K,(a3J ns []).1];simp
def b8B(ns:List Int):(dis ns).Nodup:=by
 unfold dis me;exact (a3J _ []).2 bJ
abbrev Inc(b:List Int):Prop:=b.Pairwise (· < ·)
def a5Z(ns:List Int):List Int:=srt (dis ns)
def a1a:x∈a5Z ns↔x∈ns:=by unfold a5Z;rw[(N6 _).mem_iff,b5G]
def a1b(ns:List Int):Inc (a5Z ns):=by
 have h1:=U3 (dis ns);have h2:(srt (dis ns)).Nodup:=(N6 _).nodup_iff.mpr (b8B ns);exact (h1.and h2).imp λ{a b} h=>by have:=h.1;have:=h.2;lia
def a6a(ha:Inc a)(hb:Inc b)(h:∀x,x∈a↔x∈b):a=b:=by
 have hp:a.Perm b:=(rN (ha.imp λh=>by lia) (hb.imp λh=>by lia)).mpr h;exact hp.eq_of_pairwise (le:=(· < ·)) (λ_ _ _ _ h h'=>by lia) ha hb
def nxS(m:m7)(b:List Int)(a:Nat):List Int:=a5Z (b.map λs=>(stp m s a).2)
def SetK(m:m7)(b:List Int):Prop:=Inc b/\b≠[]/\∀s∈b,0<=s/\s<(m.length:Int)
theorem b3x[DecidableEq α]:∀{l L:List α},l.Nodup->(∀x∈l,x∈L)->l.length<=L.length
 |[],_,_,_=>cj _
 |a::l,L,hn,h=>by
  rw[bB]at hn;have ha:=h a av;have:=b3x (l:=l) (L:=L.erase a) hn.2 λx hx=>(List.mem_erase_of_ne (show x≠a from λe=>hn.1 (e▸hx))).mpr (h x (aw _ hx))
  rw[List.length_erase_of_mem ha]at this;have:=vw ha;rw[ba];lia
structure Gat (m:m7) (k:Nat) (b:List Int) (o:Option (List Int)):Prop where
 ok:∀q,o=cz q->(∀a∈q,0<=a/\a<(k:Int))/\(c0x (nxS m) b q).length=1
 least:∀p,(∀a∈p,0<=a/\a<(k:Int))->(c0x (nxS m) b p).length=1->∃q,o=cz q/\(q=p\/bf q p)
end VS
namespace Prog
open PySem L2 VS
def toA(m:m7)(a:Nat)(L:List Int)(x:Int):List Int:=(L.filter λs=>decide ((stp m s a).1=x)).map λs=>(stp m s a).2
def prt(m:m7)(a:Nat)(S:List Int)(x:Int):List Int:=a5Z (toA m a S x)
def C7(m:m7)(a:Nat)(S:List Int):Bool:=decide (S.map λs=>stp m s a).Nodup
theorem a0r{α β:Type}{f:α->β}:∀{l:List α},(l.map f).Nodup->∀{x y:α},x∈l->y∈l->f x=f y->x=y
 |[],_,_,_,h,_,_=>nomatch h
 |z::l,hn,x,y,hx,hy,e=>by
  rw[aA,bB]at hn;rcases aF.mp hx with h1|h1
  ·rcases aF.mp hy with h2|h2
   ·rw[h1,h2]
   ·exact absurd (by rw[<-h1,e];exact bO h2) hn.1
  ·rcases aF.mp hy with h2|h2
   ·exact absurd (by rw[<-h2,<-e];exact bO h1) hn.1
   ·exact a0r hn.2 h1 h2 e
theorem a1G{α β:Type}{f:α->β}:∀{l:List α},l.Nodup->(∀x∈l,∀y∈l,f x=f y->x=y)->(l.map f).Nodup
 |[],_,_=>bJ
 |z::l,hn,h=>by
  rw[bB]at hn;rw[aA,bB];refine⟨λq=>?_,a1G hn.2 λx hx y hy=>h x (aw _ hx) y (aw _ hy)⟩;obtain⟨y,hy,e⟩:=bj.mp q;exact hn.1 (h z av y (aw _ hy) e.symm▸hy)
section
variable {m:m7}{k a:Nat}{S L:List Int}{x y:Int}
def a2F:y∈toA m a S x↔∃s∈S,stp m s a=(x,y):=by
 unfold toA;rw[bj]
 constructor
 ·rintro⟨s,hs,rfl⟩;have:=bG.mp hs;exact⟨s,this.1,by rw[<-aR this.2]⟩
 ·rintro⟨s,hs,e⟩;exact⟨s,bG.mpr ⟨hs,by rw[e];exact aE rfl⟩,by rw[e]⟩
def a1c:y∈prt m a S x↔∃s∈S,stp m s a=(x,y):=by unfold prt;rw[a1a,a2F]
def b5H:Inc (prt m a S x):=a1b _
def a8H(h:(S.map λs=>stp m s a).Nodup):(toA m a S x).Nodup:=by
 have hn:S.Nodup:=xR _ (λa b q e=>q (by rw[e])) h;unfold toA;refine a1G (hn.filter _) λs hs t ht e=>a0r h (bG.mp hs).1 (bG.mp ht).1 ?_
 have h1:=aR (bG.mp hs).2;have h2:=aR (bG.mp ht).2;exact Prod.ext (by rw[h1,h2]) e
def b0Z(h:L.Perm S):C7 m a L=C7 m a S:=by
 unfold C7;rw[dJ,bW,bW];exact (h.map _).nodup_iff
theorem SetK.prt(w:WF m k)(h:SetK m S)(ha:a<k)(hs:s∈S):SetK m (prt m a S (stp m s a).1):=by
 refine⟨b5H,λe=>?_,λy hy=>?_⟩
 ·have:(stp m s a).2∈Prog.prt m a S (stp m s a).1:=a1c.mpr ⟨s,hs,rfl⟩;rw[e]at this;cases this
 ·obtain⟨t,ht,e⟩:=a1c.mp hy;have:=h.2.2 t ht;have:=w.nx this.1 this.2 (a:=(a:Int)) (by lia) (by lia);rw[e]at this;exact this
def b5I(h:L.Nodup):srt L=a5Z L:=by
 refine a6a ?_ (a1b L) λx=>by rw[a1a,(N6 L).mem_iff]
 have h2:(srt L).Nodup:=(N6 L).nodup_iff.mpr h;exact ((U3 L).and h2).imp λ{a b} h=>by have:=h.1;have:=h.2;lia
def a7q(es:List Int):(a3F es).Pairwise (·<=·):=by
 have h:=O8 (es.map λe=>[e]);rw[a4T,oU]at h;refine h.imp λ{a b} qO=>?_
 by_cases c:b<a
 ·have:v4 [b] [a]=rp:=by simp[v4,show ¬ b=a by lia,c]
  exact absurd this (by simpa[leL]using qO)
 ·lia
def a9v(h:L.Nodup):a3F L=a5Z L:=by
 refine a6a ?_ (a1b L) λx=>by rw[a1a,(Y9 L).mem_iff]
 have h2:(a3F L).Nodup:=(Y9 L).nodup_iff.mpr h;exact ((a7q L).and h2).imp λ{a b} h=>by have:=h.1;have:=h.2;lia
end
def tst(T:List Int->Bool)(m:m7)(a:Nat)(S:List Int):Bool:=C7 m a S&&S.all λs=>T (prt m a S (stp m s a).1)
def tb(m:m7)(k:Nat):Nat->List Int->Bool
 |0,S=>decide (S.length=1)
 |d+1,S=>tb m k d S||(aU k).any λa=>tst (tb m k d) m a S
def lta(m:m7)(k d:Nat)(S:List Int):Option Nat:=(aU k).find? λa=>tst (tb m k d) m a S
section
variable {m:m7}{k d e:Nat}{S:List Int}
def b3y(h:tb m k d S=rp):tb m k (d+1) S=rp:=by show (tb m k d S||_)=rp;rw[h];rfl
def a4W(h:tb m k d S=rp)(hl:d<=e):tb m k e S=rp:=by
 induction hl with
 |refl=>exact h
 |step _ ih=>exact b3y ih
def a2G:tb m k (d+1) S=(tb m k d S||(lta m k d S).isSome):=by
 show (tb m k d S||_)=_
 congr 1;unfold lta;rw[dJ,er,De]
def b3z(h:lta m k d S=cz a):a<k/\tst (tb m k d) m a S=rp:=by
 unfold lta at h;exact⟨cw.mp (sf h),Io (p:=λa=>tst (tb m k d) m a S) h⟩
theorem a8I(w:WF m k):∀(d:Nat) {S S':List Int},SetK m S->SetK m S'->(∀s∈S',s∈S)->tb m k d S=rp->tb m k d S'=rp
 |0,S,S',hS,nV,hs,h=>by
  have h1:S.length=1:=aR h;show decide (S'.length=1)=rp
  match S,S',h1 with
  |[x],[],_=>exact absurd rfl nV.2.1
  |[x],[y],_=>rfl
  |[x],y::z::r,_=>
   have e1:=ak.mp (hs y av);have e2:=ak.mp (hs z (aw _ av));have:=(fN.mp nV.1).1 z av;lia
 |d+1,S,S',hS,nV,hs,h=>by
  have h':(tb m k d S||(aU k).any λa=>tst (tb m k d) m a S)=rp:=h;rcases yQ.mp h' with q|q
  ·exact b3y (a8I w d hS nV hs q)
  ·obtain⟨a,ha,q⟩:=er.mp q;have hk:=cw.mp ha;unfold tst at q;rw[ar]at q;have hf:(S.map λs=>stp m s a).Nodup:=aR q.1;show (tb m k d S'||(aU k).any λa=>tst (tb m k d) m a S')=rp;refine yQ.mpr (.inr (er.mpr ⟨a,ha,?_⟩));unfold tst;rw[ar];refine⟨aE (a1G (nV.1.imp λh=>by lia) λx hx y hy e=>a0r hf (hs x hx) (hs y hy) e),bD.mpr λs iU=>?_⟩;refine a8I w d (SetK.prt w hS hk (hs s iU)) (SetK.prt w nV hk iU) (λy hy=>?_) (bD.mp q.2 s (hs s iU));obtain⟨t,ht,e⟩:=a1c.mp hy;exact a1c.mpr ⟨t,hs t ht,e⟩
def m5(m:m7)(k:Nat)(S:List Int):D:=if S.length=1 then .none else match (aU 200).find? λe=>(lta m k e S).isSome with
 |some e=>match lta m k e S with
  |some a=>.int a
  |none=>.none
 |none=>.none
def a9w(h1:S.length≠1)(h2:tb m k d S=xn)(h3:lta m k d S=cz a)(hd:d<200):m5 m k S=.int a:=by
 have hf:((aU 200).find? λe=>(lta m k e S).isSome)=cz d:=by
  rw[sZ];refine⟨by rw[h3];rfl,cw.mpr hd,λj hj=>?_⟩;cases x:lta m k j S with
  |none=>rfl
  |some b=>
   have:tb m k (j+1) S=rp:=by rw[a2G,x,Bool.or_comm];rfl
   have:=a4W this (show j+1<=d by lia);rw[h2]at this;cases this
 unfold m5;rw[aI h1,hf];show (match lta m k d S with|some a=>aJ a|none=>.none)=_;rw[h3]
theorem b3A:∀(j:Nat),j<=200->tb m k j S=rp->S.length≠1->∃e a,e<j/\a<k/\m5 m k S=.int (a:Nat)/\tst (tb m k e) m a S=rp
 |0,_,h,h1=>absurd (aR h) h1
 |j+1,hj,h,h1=>by
  cases x:tb m k j S with
  |true=>
   obtain⟨e,a,q1,q2⟩:=b3A j (by lia) x h1;exact⟨e,a,by lia,q2⟩
  |false=>
   rw[a2G,x,tw]at h;obtain⟨a,ha⟩:=ij.mp h;have:=b3z ha;exact⟨j,a,by lia,this.1,a9w h1 x ha (by lia),this.2⟩
end
def lfS(m:m7)(k:Nat)(A:List (List Int))(d:Nat):List (List Int):=A.filter λS=>!tb m k d S
def nwS(m:m7)(k:Nat)(A:List (List Int))(d:Nat):List (List Int):=(lfS m k A d).filter λS=>(lta m k d S).isSome
def kdS(m:m7)(k:Nat)(A:List (List Int)):Nat->List (List Int)
 |0=>A.filter λS=>decide (S.length=1)
 |d+1=>kdS m k A d++nwS m k A d
section
variable {m:m7}{k:Nat}{A:List (List Int)}{d:Nat}{S:List Int}
def Z0:S∈lfS m k A d↔S∈A/\tb m k d S=xn:=by
 unfold lfS;rw[bG,fm]
def a1d:S∈nwS m k A d↔S∈A/\tb m k d S=xn/\(lta m k d S).isSome=rp:=by
 unfold nwS;rw[bG,Z0,and_assoc]
theorem D6:∀{d:Nat},S∈kdS m k A d↔S∈A/\tb m k d S=rp
 |0=>by show S∈A.filter _↔_;rw[bG];rfl
 |d+1=>by
  show S∈kdS m k A d++nwS m k A d↔_;rw[az,D6 (d:=d),a1d,a2G,iw]
  constructor
  ·rintro (⟨q1,q2⟩|⟨q1,q2,q3⟩)
   ·exact⟨q1,.inl q2⟩
   ·exact⟨q1,.inr q3⟩
  ·rintro⟨q1,q2⟩;cases x:tb m k d S with
   |true=>exact .inl ⟨q1,rfl⟩
   |false=>exact .inr ⟨q1,rfl,q2.resolve_left (by rw[x];decide)⟩
theorem b3B(hA:A.Nodup):∀d,(kdS m k A d).Nodup
 |0=>hA.filter _
 |d+1=>by
  show (kdS m k A d++nwS m k A d).Nodup;rw[bh];refine⟨b3B hA d,(hA.filter _).filter _,λx hx y hy e=>?_⟩;subst e;have h1:=(D6.mp hx).2;rw[(a1d.mp hy).2.1]at h1;cases h1
def a7r:(lfS m k A d).filter (λS=>!decide (S∈nwS m k A d))=lfS m k A (d+1):=by
 have e:∀S∈lfS m k A d,(!decide (S∈nwS m k A d))=!tb m k (d+1) S:=by
  intro S hS;have h:=Z0.mp hS
  congr 1;rw[dJ,bW,a1d,a2G,h.2,tw];exact⟨λq=>q.2.2,λq=>⟨h.1,rfl,q⟩⟩
 rw[Df e];unfold lfS;rw[List.filter_filter];refine Df λS _=>?_
 cases x:tb m k d S with
 |true=>rw[b3y x];rfl
 |false=>simp
def b3C(h:nwS m k A d≠[]):(lfS m k A (d+1)).length<(lfS m k A d).length:=by
 rw[<-a7r];obtain⟨x,hx⟩:=kH _ h;exact List.length_filter_lt_length_iff_exists.mpr ⟨x,(bG.mp hx).1,by rw[aE hx];decide⟩
def b5J(h:nwS m k A d=[])(hS:S∈A)(ha:a<k)(ht:tst (tb m k d) m a S=rp):tb m k d S=rp:=by
 cases x:tb m k d S with
 |true=>rfl
 |false=>
  have:S∈nwS m k A d:=a1d.mpr ⟨hS,x,by unfold lta;rw[De];exact⟨a,cw.mpr ha,ht⟩⟩;rw[h]at this;cases this
end
def r8(g:Int->D)(ks:List Int):List (D×D):=ks.map λx=>(aJ x,g x)
section
variable {g h:Int->D}{ks:List Int}{x:Int}
def a9x:r8 g ks=kvD g (ks.map λx=>(x,x)):=by unfold r8 kvD;rw[bN];rfl
def a4X:(r8 g ks).map (·.1)=ks.map aJ:=by unfold r8;rw[bN];rfl
def a7s:(r8 g ks).length=ks.length:=ag ..
def a1H:w6 (r8 g ks) (.int x)=decide (x∈ks):=by rw[a9x,a2D,bN];congr 2;exact g_ ks
def a1I:x∈ks->D0 (r8 g ks) (.int x)=cz (g x):=by
 induction ks with
 |nil=>intro h;cases h
 |cons y ks ih=>
  intro hx;unfold D0 r8 at ih ⊢;rw[aA,iu];show Option.map _ (match aH (.int y) (.int x) with|true=>_|false=>_)=_;rw[a2C];by_cases c:y=x
  ·rw[aE c,c];rfl
  ·rw[aW c];exact ih ((aF.mp hx).resolve_left λz=>c z.symm)
def a2l:keysOk xn (r8 g ks)=rp:=by
 unfold keysOk r8;rw[bD];intro p hp;obtain⟨q,_,rfl⟩:=bj.mp hp;exact dKey_i q
def b1a(hx:x∉ks->g x=h x):n5 (r8 g ks) (.int x) (h x)=r8 g (T1 x ks):=by
 unfold n5 T1;rw[a1H];by_cases c:x∈ks
 ·rw[aE c,aC rfl,aC c]
 ·rw[aW c,aI bo,aI c,<-hx c];unfold r8;rw[aQ];rfl
def a7t(hx:x∈ks)(hh:∀y,y≠x->h y=g y):n4 (r8 g ks) (.int x) (h x)=r8 h ks:=by
 unfold n4;rw[a1H,aE hx,aC rfl];unfold r8;rw[bN];refine cL λy _=>?_
 show (if aH (.int y) (.int x)=rp then (aJ y,h x) else (aJ y,g y))=(aJ y,h y);rw[a2C];by_cases c:y=x
 ·rw[aE c,aC rfl,c]
 ·rw[aW c,aI bo,hh y c]
def b3D(hx:x∈ks):Z5 xn (.dict (r8 g ks)) (.int x)=cz (g x):=by
 show (if m9 xn (.int x)&&keysOk xn (r8 g ks) then D0 (r8 g ks) (.int x) else p4)=_;rw[dKey_i,a2l,a1I hx];rfl
def a3L{es:List Int}(ha:a U=cz (.dict kvs))(he:kvs.map (·.1)=es.map aJ)(hl:es.length<60):K5 xn a U=cz (iD (a3F es)):=by
 unfold K5;rw[ha,bC];show (cz (kvs.map (·.1))).bind _=_;rw[bC,he];unfold a3l;rw[a3H,bC,aC (by unfold okK;rw[ag,aE (by lia)];rfl),a4T,bN];rfl
def b5K(hn:ks.Nodup):(T1 x ks).Nodup:=by
 unfold T1;by_cases c:x∈ks
 ·rw[aC c];exact hn
 ·rw[aI c,bh];exact⟨hn,by simp,λy hy z hz e=>c (by rw[ak]at hz;rw[<-hz,<-e];exact hy)⟩
end
def ddE(l:List Int):List Int:=l.foldl (λacc x=>T1 x acc) []
def a1e(l:List Int)(x:Int):ddE (l++[x])=T1 x (ddE l):=by unfold ddE;rw[List.foldl_append];rfl
def Z1(l:List Int):y∈ddE l↔y∈l:=by
 induction l using snoc_ind with
 |h0=>exact⟨λh=>(nomatch h),λh=>(nomatch h)⟩
 |h1 l x ih=>rw[a1e,a3E,ih,az,ak]
def b8C(l:List Int):(ddE l).Nodup:=by
 induction l using snoc_ind with
 |h0=>exact bJ
 |h1 l x ih=>rw[a1e];exact b5K ih
def a9y(l:List Int):(ddE l).length<=l.length:=b3x (b8C l) λx hx=>(Z1 l).mp hx
abbrev BG:=List (Int×Int)
def gp(m:m7)(a:Nat)(B:BG)(x:Int):BG:=(B.filter λp=>decide ((stp m p.1 a).1=x)).map λp=>((stp m p.1 a).2,p.2)
def anL(m:m7)(a:Nat)(B:BG):List Int:=ddE (B.map λp=>(stp m p.1 a).1)
def bgD(B:BG):D:=.dict (kvD aJ B)
def ptD(m:m7)(a:Nat)(B:BG):D:=.dict (r8 (λx=>bgD (gp m a B x)) (anL m a B))
section
variable {m:m7}{a:Nat}{B:BG}{x y:Int}
def a2H:(gp m a B x).map (·.1)=toA m a (B.map (·.1)) x:=by
 unfold gp toA;rw[bN,List.filter_map,bN];rfl
def b8D:y∈(gp m a B x).map (·.1)↔(x,y)∈B.map λp=>stp m p.1 a:=by
 rw[a2H,a2F,bj]
 constructor
 ·rintro⟨s,hs,e⟩;obtain⟨p,hp,rfl⟩:=bj.mp hs;exact⟨p,hp,e⟩
 ·rintro⟨p,hp,e⟩;exact⟨p.1,bO hp,e⟩
def a9z(p:Int×Int):gp m a (B++[p]) x=if (stp m p.1 a).1=x then gp m a B x++[((stp m p.1 a).2,p.2)] else gp m a B x:=by
 unfold gp;rw[fO,aQ];by_cases c:(stp m p.1 a).1=x
 ·rw[aC c,e_ (by exact aE c)];rfl
 ·rw[aI c,fg (by rw[aW c];exact bo)];simp
def b5L(h:x∉anL m a B):gp m a B x=[]:=by
 unfold gp;rw[lI.mpr λp hp c=>h ((Z1 _).mpr (bj.mpr ⟨p,hp,aR c⟩))];rfl
def b3E(p:Int×Int):anL m a (B++[p])=T1 (stp m p.1 a).1 (anL m a B):=by unfold anL;rw[aQ];exact a1e _ _
def b6s:(gp m a B x).length<=B.length:=by unfold gp;rw[ag];exact dO _ _
def a6b:(anL m a B).length<=B.length:=by have:=a9y (B.map λp=>(stp m p.1 a).1);rw[ag]at this;exact this
def a6c:x∈anL m a B↔∃p∈B,(stp m p.1 a).1=x:=by unfold anL;rw[Z1,bj]
def b5M{U:List D}{p:Int×Int}(hd:U.getD i .none=ptD m a B)(hk:fk U=cz (.int (stp m p.1 a).1))(hj:∀x,fj (U.set i x)=cz (.int (stp m p.1 a).2))(hr:∀x,fr (U.set i x)=cz .none)(hv:∀x,fv (U.set i x)=cz (.int p.2))(hl:B.length<1000) :
  a3v i xn xn fk fj fr fv U=if stp m p.1 a∈B.map (λp=>stp m p.1 a) then cz (.rt .none) else cz (.nx (U.set i (ptD m a (B++[p])))):=by
 have hg:=b6s (m:=m) (a:=a) (B:=B) (x:=(stp m p.1 a).1);have ha:=a6b (m:=m) (a:=a) (B:=B);have e1:n5 (r8 (λx=>bgD (gp m a B x)) (anL m a B)) (.int (stp m p.1 a).1) (.dict [])=r8 (λx=>bgD (gp m a B x)) (T1 (stp m p.1 a).1 (anL m a B)):=
  b1a (h:=λ_=>bgD []) λq=>by show bgD (gp m a B _)=_;rw[b5L q]
 have mG:(stp m p.1 a).1∈T1 (stp m p.1 a).1 (anL m a B):=a3E.mpr (.inr rfl);unfold a3v;rw[hk,bC,hd];unfold ptD;show (if m9 xn (.int (stp m p.1 a).1)&&decide ((r8 (λx=>bgD (gp m a B x)) (anL m a B)).length<1000000) then _ else p4)=_;rw[dKey_i,a7s,aE (by lia),ny,aC rfl,hj,bC,e1,a1I mG];show (if m9 xn (.int (stp m p.1 a).2)&&decide ((kvD aJ (gp m a B (stp m p.1 a).1)).length<1000000) then _ else p4)=_;rw[dKey_i,a9s,aE (by lia),ny,aC rfl,a2D];have hm:((stp m p.1 a).2∈(gp m a B (stp m p.1 a).1).map (·.1))↔stp m p.1 a∈B.map (λp=>stp m p.1 a):=b8D;by_cases c:stp m p.1 a∈B.map (λp=>stp m p.1 a)
 ·rw[aE (hm.mpr c),aC rfl,aC c,hr];rfl
 ·have hn:=λz=>c (hm.mp z)
  rw[aW hn,aI bo,aI c,hv,bC,b3r (enc:=aJ) hn,lH];have e2:n4 (r8 (λx=>bgD (gp m a B x)) (T1 (stp m p.1 a).1 (anL m a B))) (.int (stp m p.1 a).1) (bgD (gp m a (B++[p]) (stp m p.1 a).1))=r8 (λx=>bgD (gp m a (B++[p]) x)) (T1 (stp m p.1 a).1 (anL m a B)):=a7t (h:=λx=>bgD (gp m a (B++[p]) x)) mG λy hy=>by
   show bgD (gp m a (B++[p]) y)=bgD (gp m a B y);rw[a9z,aI λz=>hy z.symm]
  rw[a9z,aC rfl]at e2;rw[b3E,<-e2];rfl
end
def A0(S:List Int):imm (g7 S)=rp:=by unfold g7;simp only[imm];exact x6 S
def a8J(w:WF m k):S8 [.list (m.map rwD)]=cz (.int k):=by
 unfold S8;rw[Q6 (by simp[VS.argsOk])];unfold a4P;have hp:=w.pos;walk_at "ev";rw[b5x (by lia) (by lia)];walk_at "ev";rw[w.row (by lia) (by lia)]
def c0y(h:f U=cz (bgD B)):iIt f U=cz (B.map stD):=by
 unfold iIt;rw[h,bC];show (if keysOk xn (kvD aJ B) then cz ((kvD aJ B).map a3s) else p4)=_;rw[aC (show keysOk xn (kvD aJ B)=rp from a9t)];unfold kvD;rw[bN];rfl
def a7u{B:BG}{p:Int×Int}:C7 m a ((B++[p]).map (·.1))=(C7 m a (B.map (·.1))&&!decide (stp m p.1 a∈B.map λp=>stp m p.1 a)):=by
 unfold C7;rw[dJ,ar,bW,bW,bN,bN,aQ,bh,fm,gi]
 constructor
 ·rintro⟨h1,_,h3⟩;exact⟨h1,λz=>h3 _ z _ (ak.mpr rfl) rfl⟩
 ·rintro⟨h1,h2⟩;exact⟨h1,by simp,λx hx y hy e=>h2 (by have:=ak.mp hy;subst this;subst e;exact hx)⟩
def b3F{B C:BG}(h:C7 m a ((B++C).map (·.1))=rp):C7 m a (B.map (·.1))=rp:=by
 unfold C7 at h ⊢;rw[bW]at h ⊢;rw[aQ,aQ]at h;exact (bh.mp h).1
section
variable {m:m7}{k:Nat}(w:WF m k){a:Nat}(ha:a<k)
include w ha
theorem a1f(hB:∀p∈B,0<=p.1/\p.1<(m.length:Int))(hl:B.length<1000):x8 [.list (m.map rwD),bgD B,.int a]=cz (if C7 m a (B.map (·.1)) then ptD m a B else .none):=by
 unfold x8;rw[Q6 (by simp[VS.argsOk,imm])];unfold a2g;walk_at "ev";rw[a3y (c0y (B:=B) (by walk_at "ev")) (o8 _ (λ_=>a8D) _)];walk_at "ev";rcases Y8 (enc:=stD) (set:=a9W 4 5) (xs:=B) (g:=(i9 (m4 6 (e2 C4 (e2 dIx (b7 0) (b7 4)) (b7 2))) (i9 (a3v 3 xn xn (e2 C4 (b7 6) (eC (.int 0))) (e2 C4 (b7 6) (eC (.int 1))) (eC .none) (b7 5)) x0))) (U:=[.list (m.map rwD),bgD B,.int a,.dict [],.none,.none,.none,.none])
   (λpre U=>C7 m a (pre.map (·.1))=rp/\∃x y z,U=[.list (m.map rwD),bgD B,.int a,ptD m a pre,x,y,z,.none]) (λr=>r=.none/\C7 m a (B.map (·.1))=xn) ⟨rfl,_,_,_,rfl⟩ (by
    rintro pre p post e U ⟨hf,x,y,z,rfl⟩;have hp:=hB p (by rw[e];simp);have hr:=w.row hp.1 hp.2;have gh:pre.length<1000:=by rw[e,a_]at hl;lia
    refine⟨[.list (m.map rwD),bgD B,.int a,ptD m a pre,.int p.1,.int p.2,z,.none],rfl,?_⟩;have hc:m4 6 (e2 C4 (e2 dIx (b7 0) (b7 4)) (b7 2)) [.list (m.map rwD),bgD B,.int a,ptD m a pre,.int p.1,.int p.2,z,.none]=cz (.nx [.list (m.map rwD),bgD B,.int a,ptD m a pre,.int p.1,.int p.2,stD (stp m p.1 a),.none]):=by
     walk_at "ev";rw[b5x hp.1 hp.2];walk_at "ev";rw[c0n (by lia) (by lia)];walk_at "ev";rfl
    have hs:=b5M (m:=m) (a:=a) (B:=pre) (p:=p) (i:=3) (fk:=e2 C4 (b7 6) (eC (.int 0))) (fj:=e2 C4 (b7 6) (eC (.int 1))) (fr:=eC .none) (fv:=b7 5) (U:=[.list (m.map rwD),bgD B,.int a,ptD m a pre,.int p.1,.int p.2,stD (stp m p.1 a),.none]) rfl rfl (λ_=>rfl) (λ_=>rfl) (λ_=>rfl) gh;rw[I9,hc,E7,I9,hs];by_cases c:stp m p.1 a∈pre.map λp=>stp m p.1 a
    ·rw[aC c];refine .inr ⟨_,rfl,rfl,?_⟩;cases x:C7 m a (B.map (·.1)) with
     |false=>rfl
     |true=>
      have e2:B=(pre++[p])++post:=by rw[e];simp
      rw[e2]at x;have:=b3F x;rw[a7u,aE c,hf]at this;cases this
    ·rw[aI c];refine .inl ⟨_,rfl,?_,_,_,_,rfl⟩;rw[a7u,aW c,hf];rfl) with⟨U',g1,hf,x,y,z,rfl⟩|⟨r,g1,rfl,hf⟩
 ·rw[g1];walk_at "ev";rw[aC hf]
 ·rw[g1];walk_at "ev";rw[aI (by rw[hf];exact bo)]
end
def bhD(m:m7)(a:Nat)(S:List Int):D:=if C7 m a S then .list ((anL m a (S.zip S)).map λx=>g7 (prt m a S x)) else .none
def U8(S:List Int):(S.zip S).map (·.1)=S:=by rw[GX (ay _)]
def a3M(h:f U=cz (if l then iD S else g7 S))(hn:S.Nodup)(hl:S.length<1000):K2 l f f U=cz (bgD (S.zip S)):=by
 have hq:b5m l (if l then iD S else g7 S)=cz S:=by cases l<;>exact U2 S
 unfold K2;rw[h,bC,bC,hq,bC,bC,aC]
 ·rfl
 ·unfold a9n;rw[aE rfl,aE hn,aE (by lia)];rfl
def c0z(h:f U=cz (.dict (r8 g ks))):iVa f U=cz (ks.map g):=by
 unfold iVa;rw[h,bC];show (if keysOk xn (r8 g ks) then cz ((r8 g ks).map (·.2)) else p4)=_;rw[aC a2l];unfold r8;rw[bN];rfl
section
variable {m:m7}{k:Nat}(w:WF m k)
include w
theorem a3N(hS:SetK m S)(hl:S.length<=30):A5 [.list (m.map rwD),g7 S]=cz (.list ((aU k).map λ(a:Nat)=>bhD m a S)):=by
 have Ab:=w.k5;have nI:=w.pos;have kc:S.Nodup:=hS.1.imp λh=>by lia
 unfold A5;rw[Q6 (by simp[VS.argsOk,A0])];unfold a0b;walk_at "ev";rw[show iR (eCl S8 (b8 (b7 0) i5)) [.list (m.map rwD),g7 S,.list [],.none,.none]=cz (B8 0 k) by
  rw[a3Y (n:=k) (by walk_at "ev";exact a8J w) (by lia) (by lia),bQ]]
 walk_at "ev";refine U6 (λU=>∃x y,U=[.list (m.map rwD),g7 S,.list ((aU k).map λ(a:Nat)=>bhD m a S),x,y]) ?_ ?_
 ·obtain⟨U',g1,x,y,rfl⟩:=y9 (n:=k) (set:=u8 3) (g:=(i9 (m4 4 (eCl x8 (b8 (b7 0) (b8 (K2 xn (b7 1) (b7 1)) (b8 (b7 3) i5))))) (O1 2 (.l .f) B9 (eIf (tB (e2 (Z2 xn) (b7 4) (eC .none))) (eC .none) (n8 (iVa (b7 4)) [] pt1 tT (H9 (K5 xn (b7 0)))))))) (U:=[.list (m.map rwD),g7 S,.list [],.none,.none])
   (λj U=>∃x y,U=[.list (m.map rwD),g7 S,.list ((aU j).map λ(a:Nat)=>bhD m a S),x,y]) ⟨_,_,rfl⟩ (by
    rintro a ha U ⟨x,y,rfl⟩;have hp:=a1f w ha (B:=S.zip S) (λp hp=>hS.2.2 p.1 (by have:=bO (f:=Prod.fst) hp;rw[U8]at this;exact this)) (by rw[dS];lia);rw[U8]at hp;have hc:m4 4 (eCl x8 (b8 (b7 0) (b8 (K2 xn (b7 1) (b7 1)) (b8 (b7 3) i5)))) [.list (m.map rwD),g7 S,.list ((aU a).map λ(a:Nat)=>bhD m a S),.int a,y]=cz (.nx [.list (m.map rwD),g7 S,.list ((aU a).map λ(a:Nat)=>bhD m a S),.int a,if C7 m a S then ptD m a (S.zip S) else .none]):=by
     walk_at "ev";rw[a3M (l:=xn) (S:=S) (by rfl) kc (by lia)];walk_at "ev";rw[hp];rfl
    refine⟨_,[.list (m.map rwD),g7 S,.list ((aU (a+1)).map λ(a:Nat)=>bhD m a S),.int a,if C7 m a S then ptD m a (S.zip S) else .none],rfl,?_,_,_,rfl⟩;show (i9 (m4 4 (eCl x8 (b8 (b7 0) (b8 (K2 xn (b7 1) (b7 1)) (b8 (b7 3) i5))))) (O1 2 (.l .f) B9 (eIf (tB (e2 (Z2 xn) (b7 4) (eC .none))) (eC .none) (n8 (iVa (b7 4)) [] pt1 tT (H9 (K5 xn (b7 0))))))) [.list (m.map rwD),g7 S,.list ((aU a).map λ(a:Nat)=>bhD m a S),.int a,y]=_;rw[I9,hc,E7];have hv:eIf (tB (e2 (Z2 xn) (b7 4) (eC .none))) (eC .none) (n8 (iVa (b7 4)) [] pt1 tT (H9 (K5 xn (b7 0)))) [.list (m.map rwD),g7 S,.list ((aU a).map λ(a:Nat)=>bhD m a S),.int a,if C7 m a S then ptD m a (S.zip S) else .none]=cz (bhD m a S):=by
     cases hf:C7 m a S with
     |false=>
      unfold bhD;rw[hf];rfl
     |true=>
      have pG:(S.map λs=>stp m s a).Nodup:=aR hf;rw[b9E];show b4F (lT (cz (.bool xn))) _ _ _=_;have vf:=a6b (m:=m) (a:=a) (B:=S.zip S);rw[dS]at vf;show (n8 (iVa (b7 4)) [] pt1 tT (H9 (K5 xn (b7 0)))) [.list (m.map rwD),g7 S,.list ((aU a).map λ(a:Nat)=>bhD m a S),.int a,ptD m a (S.zip S)]=_;rw[a0Y (enc:=λx=>bgD (gp m a (S.zip S) x)) (xs:=anL m a (S.zip S)) (λx=>g7 (prt m a S x)) (by exact c0z rfl) (by lia) (λx _=>⟨_,rfl,?_⟩)]
      ·unfold bhD;rw[hf];rfl
      ·have hg:=b6s (m:=m) (a:=a) (B:=S.zip S) (x:=x);rw[dS]at hg;rw[a3z];rw[a3L (kvs:=kvD aJ (gp m a (S.zip S) x)) (es:=(gp m a (S.zip S) x).map (·.1)) rfl b3s (by rw[ag];lia),a2H,U8,a9v (a8H pG)];exact W8
    rw[b2d,hv];show a9Z 2 (.list _) (cz (bhD m a S)) _=_;rw[P9 (by rw[ag,dB];lia),List.range_succ,aQ];rfl)
  exact⟨_,g1,_,_,rfl⟩
 ·rintro U ⟨x,y,rfl⟩;walk_at "ev"
end
def optN:Option Nat->D
 |none=>.none
 |some a=>.int a
def tsl(m:m7)(l:List (List Int))(a:Nat)(S:List Int):Bool:=C7 m a S&&(anL m a (S.zip S)).all λx=>decide (prt m a S x∈l)
theorem a2m:∀(l:List D) (j:Nat),N5 l j=(aU l.length).map λ(s:Nat)=>jA [.int ((j+s:Nat):Int),l.getD s .none]
 |[],j=>rfl
 |d::l,j=>by
  show jA [.int j,d]::N5 l (j+1)=_;rw[a2m l,ba,List.range_succ_eq_map,aA,bN]
  congr 1;refine cL λs _=>?_
  show jA [.int ((j+1+s:Nat):Int),_]=jA [.int ((j+(s+1):Nat):Int),_];rw[show j+1+s=j+(s+1) by lia];rfl
def a7v(f:Nat->D)(k:Nat):N5 ((aU k).map f) 0=(aU k).map λ(a:Nat)=>jA [.int (a:Int),f a]:=by
 rw[a2m,ag,dB];refine cL λa ha=>?_
 rw[Nat.zero_add,aB,aZ,ic (cw.mp ha)];rfl
def a1J{S:List Int}(hk:k<=5)(hl:S.length<=30):q9 [.list ((aU k).map λ(a:Nat)=>bhD m a S),.dict (f6 g l)]=cz (optN ((aU k).find? λa=>tsl m l a S)):=by
 unfold q9;rw[Q6 (by simp[VS.argsOk])];unfold U9;walk_at "ev";rw[c1U (ds:=(aU k).map λ(a:Nat)=>bhD m a S) (by walk_at "ev"),a7v];walk_at "ev";rcases Y8 (enc:=λ(a:Nat)=>jA [.int (a:Int),bhD m a S]) (set:=a9W 2 3) (xs:=aU k) (g:=(sIf (tAn (tB (e2 (Z2 rp) (b7 3) (eC .none))) (tV (eCl b1N (b8 (n8 (iL (b7 3)) [1] pt1 tT (e2 (Z4 xn rp) (b7 0) (b7 1))) i5)))) (p6 (eIm (b7 2))) x0)) (U:=[.list ((aU k).map λ(a:Nat)=>bhD m a S),.dict (f6 g l),.none,.none])
   (λpre U=>(∀b∈pre,tsl m l b S=xn)/\∃x y,U=[.list ((aU k).map λ(a:Nat)=>bhD m a S),.dict (f6 g l),x,y]) (λr=>r=optN ((aU k).find? λa=>tsl m l a S)) ⟨λb hb=>(nomatch hb),_,_,rfl⟩ (by
    rintro pre a post e U ⟨hb,x,y,rfl⟩;obtain⟨r1,r2,r3⟩:=a2e e;refine⟨[.list ((aU k).map λ(a:Nat)=>bhD m a S),.dict (f6 g l),.int a,bhD m a S],rfl,?_⟩;have ht:(tAn (tB (e2 (Z2 rp) (b7 3) (eC .none))) (tV (eCl b1N (b8 (n8 (iL (b7 3)) [1] pt1 tT (e2 (Z4 xn rp) (b7 0) (b7 1))) i5)))) [.list ((aU k).map λ(a:Nat)=>bhD m a S),.dict (f6 g l),.int a,bhD m a S]=cz (tsl m l a S):=by
     unfold tsl;cases hf:C7 m a S with
     |false=>
      have:bhD m a S=.none:=by unfold bhD;rw[hf];rfl
      rw[this];rfl
     |true=>
      have FI:bhD m a S=.list ((anL m a (S.zip S)).map λx=>g7 (prt m a S x)):=by unfold bhD;rw[hf];rfl
      have vf:=a6b (m:=m) (a:=a) (B:=S.zip S);rw[dS]at vf;rw[FI];walk_at "ev";rw[a0Y (enc:=λx=>g7 (prt m a S x)) (xs:=anL m a (S.zip S)) (λx=>dE ((λx=>decide (prt m a S x∈l)) x)) (by walk_at "ev") (by lia) (λx _=>⟨_,rfl,?_⟩)]
      ·walk_at "ev";rw[v_all (λx=>decide (prt m a S x∈l))];rfl
      ·walk_at "ev";rw[a7p];simp
    rw[a6v,ht];cases x:tsl m l a S with
    |false=>exact .inl ⟨_,rfl,λb nU=>(az.mp nU).elim (hb b) λq=>by rw[ak.mp q];exact x,_,_,rfl⟩
    |true=>
     refine .inr ⟨.int a,rfl,?_⟩;have:((aU k).find? λa=>tsl m l a S)=cz a:=by
      rw[sZ];refine⟨x,cw.mpr r2,λj hj=>?_⟩;rw[hb j (by rw[r3];exact cw.mpr hj)];rfl
     rw[this];rfl) with⟨U',g1,hb,x,y,rfl⟩|⟨r,g1,rfl⟩
 ·rw[g1];walk_at "ev";rw[iC.mpr λa ha=>by rw[hb a ha];exact bo];rfl
 ·rw[g1];walk_at "ev"
def b8E:dIn neg rp (g7 a) (.dict (f6 g l))=cz (.bool (neg !=decide (a∈l))):=by
 show (if m9 rp (g7 a) then cz (dE (neg !=w6 (f6 g l) (g7 a))) else p4)=_;rw[T2,T3];rfl
def b8F(h:a U=cz (.dict (f6 g l))):tVD a U=cz !l.isEmpty:=by
 unfold tVD;rw[h];cases l<;>rfl
def b8G{U:List D}(hi:U.getD i .none=.dict (f6 g l))(hj:U.getD j .none=.dict (f6 g l'))(gN:l≠[])(hd:∀p∈l',p∉l)(hl:l.length+l'.length<=1000000):b0q i j U=cz (.nx (U.set i (.dict (f6 g (l++l'))))):=by
 unfold b0q;rw[hi,hj];show (if !(f6 g l).isEmpty&&((f6 g l').all λp=>!w6 (f6 g l) p.1)&&decide ((f6 g l).length+(f6 g l').length<=1000000) then _ else p4)=_;rw[aC]
 ·unfold f6;rw[aQ]
 ·rw[a3I,a3I,aE hl,ju,ar]
  constructor
  ·cases l with
   |nil=>exact absurd rfl gN
   |cons _ _=>rfl
  ·rw[bD];intro p hp;unfold f6 at hp;obtain⟨q,hq,rfl⟩:=bj.mp hp;rw[T3,aW (hd q hq)];rfl
def a1g{l L:List (List Int)}{f:List Int->Option Nat}(hg:∀S∈L,gm [g7 S,.dict (f6 g l)]=cz (optN (f S)))(hv:∀S∈L,∀a,f S=cz a->g S=.int a)(hn:L.Nodup)(hl:L.length<=1000):o9 gm [.dict (f6 g l),.list (L.map g7)]=cz (.dict (f6 g (L.filter λS=>(f S).isSome))):=by
 unfold o9;rw[b6p (by simp[VS.argsOk])];show a2V (J4 gm [.dict (f6 g l),.list (L.map g7),.none,.none,.none,.none])=_;unfold J4;walk_at "ev";rw[a3y (ds:=L.map g7) (by walk_at "ev") (o8 _ A0 _)];walk_at "ev";refine U6 (λU=>∃x y,U=[.dict (f6 g l),.list (L.map g7),.none,.dict (f6 g (L.filter λS=>(f S).isSome)),x,y]) ?_ ?_
 ·obtain⟨U',g1,x,y,rfl⟩:=R9 (enc:=g7) (set:=u8 4) (xs:=L) (g:=(i9 (m4 5 (eCl gm (b8 (b7 4) (b8 (b7 0) i5)))) (sIf (tB (e2 (Z2 rp) (b7 5) (eC .none))) (z7 3 rp (b7 4) (b7 5)) x0))) (U:=[.dict (f6 g l),.list (L.map g7),.none,.dict [],.none,.none])
   (λpre U=>∃x y,U=[.dict (f6 g l),.list (L.map g7),.none,.dict (f6 g (pre.filter λS=>(f S).isSome)),x,y]) ⟨_,_,rfl⟩ (by
    rintro pre S post e U ⟨x,y,rfl⟩;have hS:S∈L:=by rw[e];simp
    have hp:=hg S hS;have mE:S∉pre:=by
     rw[e]at hn;have:=bh.mp hn;exact λz=>this.2.2 S z S av rfl
    have hlen:(pre.filter λS=>(f S).isSome).length<1000000:=by
     have h1:=dO (λS=>(f S).isSome) pre;have h2:pre.length<=L.length:=by rw[e];simp
     lia
    have hc:m4 5 (eCl gm (b8 (b7 4) (b8 (b7 0) i5))) [.dict (f6 g l),.list (L.map g7),.none,.dict (f6 g (pre.filter λS=>(f S).isSome)),g7 S,y]=cz (.nx [.dict (f6 g l),.list (L.map g7),.none,.dict (f6 g (pre.filter λS=>(f S).isSome)),g7 S,optN (f S)]):=by
     walk_at "ev";rw[hp];walk_at "ev"
    refine⟨_,[.dict (f6 g l),.list (L.map g7),.none,.dict (f6 g ((pre++[S]).filter λS=>(f S).isSome)),g7 S,optN (f S)],rfl,?_,_,_,rfl⟩;show (i9 (m4 5 (eCl gm (b8 (b7 4) (b8 (b7 0) i5)))) (sIf (tB (e2 (Z2 rp) (b7 5) (eC .none))) (z7 3 rp (b7 4) (b7 5)) x0)) [.dict (f6 g l),.list (L.map g7),.none,.dict (f6 g (pre.filter λS=>(f S).isSome)),g7 S,y]=_;rw[I9,hc,E7,fO];cases x:f S with
    |none=>
     rw[fg (by rw[x];exact bo),Ip,bM];rfl
    |some a=>
     rw[e_ (by rw[x];rfl),Ip];show z7 3 rp (b7 4) (b7 5) [.dict (f6 g l),.list (L.map g7),.none,.dict (f6 g (pre.filter λS=>(f S).isSome)),g7 S,.int a]=_;rw[a2E (g:=g) (a:=S) (l:=pre.filter λS=>(f S).isSome) (by rw[hv S hS a x];rfl) rfl rfl hlen];unfold a5Y;rw[aI λz=>mE (bG.mp z).1];rfl)
  exact⟨_,g1,_,_,rfl⟩
 ·rintro U ⟨x,y,rfl⟩;walk_at "ev"
section
variable {m:m7}{k:Nat}{A:List (List Int)}(hA:A.Nodup)(uc:A.length<=150)(h1:kdS m k A 0≠[])(hok:G5 (f6 (m5 m k) (kdS m k A 0))=rp)
include hA uc h1 hok
theorem a0s(Fi:∀d,d<=150->∀S∈lfS m k A d,gm [g7 S,.dict (f6 (m5 m k) (kdS m k A d))]=cz (optN (lta m k d S))):∃d,p9 gm [.dict (f6 (m5 m k) (kdS m k A 0)),.list ((lfS m k A 0).map g7)]=cz (.dict (f6 (m5 m k) (kdS m k A d)))/\nwS m k A d=[]/\d<=(lfS m k A 0).length:=by
 have yi:∀d,(lfS m k A d).length<=150:=λd=>cU (dO _ _) uc
 have EY:∀d,(kdS m k A d).length<=150:=λd=>cU (b3x (b3B hA d) λx hx=>(D6.mp hx).1) uc
 have round:∀d,d<=150->o9 gm [.dict (f6 (m5 m k) (kdS m k A d)),.list ((lfS m k A d).map g7)]=cz (.dict (f6 (m5 m k) (nwS m k A d))):=λd hd=>a1g (f:=lta m k d) (Fi d hd) (λS hS a ha=>by
  have nV:=Z0.mp hS;exact a9w (λz=>by have:=a4W (show tb m k 0 S=rp from aE z) (cj d);rw[nV.2]at this;cases this) nV.2 ha (by lia)) (hA.filter _) (by have:=yi d;lia)
 have hu:p9 gm [.dict (f6 (m5 m k) (kdS m k A 0)),.list ((lfS m k A 0).map g7)]=a2V (G8 gm [.dict (f6 (m5 m k) (kdS m k A 0)),.list ((lfS m k A 0).map g7),.none,.none,.none]):=by
  unfold p9;rw[b6p (by simp[VS.argsOk])];rfl
 rw[hu];unfold G8;walk_at "ev";rw[show a5R (b7 0) [.dict (f6 (m5 m k) (kdS m k A 0)),.list ((lfS m k A 0).map g7),.none,.none,.none]=cz (.dict (f6 (m5 m k) (kdS m k A 0))) by
  show (if G5 (f6 (m5 m k) (kdS m k A 0)) then cz (br.dict (f6 (m5 m k) (kdS m k A 0))) else p4)=_;rw[aC hok]]
 walk_at "ev";rw[b6q (ds:=[.dict (f6 (m5 m k) (kdS m k A 0)),.list ((lfS m k A 0).map g7)]) (by walk_at "ev"),round 0 (by lia)];walk_at "ev";obtain⟨U',g1,d,x,y,rS,hd,rfl⟩:=a9r (c:=(tVD (b7 4))) (g:=(i9 (b0q 3 4) (i9 (m4 1 (n8 (iI (iL (b7 1))) [4] pt1 (tB (e2 (dIn rp rp) (b7 0) (b7 1))) (b7 0))) (m4 4 (b0G o9 gm (b8 (b7 3) (b8 (b7 1) i5)))))))
  (I:=λd U=>d+(lfS m k A d).length<=(lfS m k A 0).length/\U=[.dict (f6 (m5 m k) (kdS m k A 0)),.list ((lfS m k A d).map g7),.none,.dict (f6 (m5 m k) (kdS m k A d)),.dict (f6 (m5 m k) (nwS m k A d))])
  (Q:=λU=>∃d x y,nwS m k A d=[]/\d<=(lfS m k A 0).length/\U=[.dict (f6 (m5 m k) (kdS m k A 0)),x,.none,.dict (f6 (m5 m k) (kdS m k A d)),y]) 1000 (by
   rintro d U ⟨hd,rfl⟩;have h0:=yi 0;refine⟨by lia,?_⟩;have ht:tVD (b7 4) [.dict (f6 (m5 m k) (kdS m k A 0)),.list ((lfS m k A d).map g7),.none,.dict (f6 (m5 m k) (kdS m k A d)),.dict (f6 (m5 m k) (nwS m k A d))]=cz !(nwS m k A d).isEmpty:=b8F rfl;by_cases hV:nwS m k A d=[]
   ·refine .inl ⟨by rw[ht,hV];rfl,d,_,_,hV,by lia,rfl⟩
   ·have rV:=b3C hV;refine .inr ⟨by rw[ht];cases e:nwS m k A d with|nil=>exact absurd e hV|cons _ _=>rfl,[.dict (f6 (m5 m k) (kdS m k A 0)),.list ((lfS m k A (d+1)).map g7),.none,.dict (f6 (m5 m k) (kdS m k A (d+1))),.dict (f6 (m5 m k) (nwS m k A (d+1)))],?_,by lia,rfl⟩;have hu:=b8G (i:=3) (j:=4) (U:=[.dict (f6 (m5 m k) (kdS m k A 0)),.list ((lfS m k A d).map g7),.none,.dict (f6 (m5 m k) (kdS m k A d)),.dict (f6 (m5 m k) (nwS m k A d))]) (g:=m5 m k) (l:=kdS m k A d) (l':=nwS m k A d) rfl rfl (λz=>by
      obtain⟨S,hS⟩:=kH _ h1;have q:=D6.mp hS;have:S∈kdS m k A d:=D6.mpr ⟨q.1,a4W q.2 (cj _)⟩;rw[z]at this;cases this) (λp hp hk=>by
      have h2:=(D6.mp hk).2;rw[(a1d.mp hp).2.1]at h2;cases h2) (by have:=EY d;have:=yi d;have:=dO (λS=>(lta m k d S).isSome) (lfS m k A d);unfold nwS;lia)
    have hc:n8 (iI (iL (b7 1))) [4] pt1 (tB (e2 (dIn rp rp) (b7 0) (b7 1))) (b7 0) [.dict (f6 (m5 m k) (kdS m k A 0)),.list ((lfS m k A d).map g7),.none,.dict (f6 (m5 m k) (kdS m k A d++nwS m k A d)),.dict (f6 (m5 m k) (nwS m k A d))]=cz (.list ((lfS m k A (d+1)).map g7)):=by
     rw[a9u (enc:=g7) (xs:=lfS m k A d) (λS=>!decide (S∈nwS m k A d)) g7 ?_ (by have:=yi d;lia),a7r]
     ·intro S hS;refine⟨_,rfl,?_,λ_=>rfl⟩;show tB (e2 (dIn rp rp) (b7 0) (b7 1)) [g7 S,.dict (f6 (m5 m k) (nwS m k A d))]=_;walk_at "ev";rw[b8E];cases decide (S∈nwS m k A d)<;>rfl
     ·rw[a3y (ds:=(lfS m k A d).map g7) (by walk_at "ev") (o8 _ A0 _)]
    rw[I9,hu];walk_at "ev";rw[hc];walk_at "ev";rw[b6q (ds:=[.dict (f6 (m5 m k) (kdS m k A (d+1))),.list ((lfS m k A (d+1)).map g7)]) (by walk_at "ev";rfl),round (d+1) (by lia)];walk_at "ev";rfl) 1000000 0 [.dict (f6 (m5 m k) (kdS m k A 0)),.list ((lfS m k A 0).map g7),.none,.dict (f6 (m5 m k) (kdS m k A 0)),.dict (f6 (m5 m k) (nwS m k A 0))] ⟨by lia,rfl⟩ (by lia)
 rw[c1S,g1];walk_at "ev";exact⟨d,rfl,rS,hd⟩
end
end Prog
local macro_rules | `(tactic| walk_at "evn")=>`(tactic| first | (walk_at "ev";repeat (simp -implicitDefEqProofs (disch:=first | omega | assumption | decide) only [VS.a5U,VS.a5V];try walk_at "ev")) | (simp -implicitDefEqProofs (disch:=first | omega | assumption | decide) only [VS.a5U,VS.a5V];repeat (first | walk_at "ev" | simp -implicitDefEqProofs (disch:=first | omega | assumption | decide) only [VS.a5U,VS.a5V])))
namespace VS
open PySem L2
def B0:Nat->List (List Int)
 |0=>[[]]
 |j+1=>B0 j++(B0 j).map λS=>S++[(j:Int)]
def sts(n:Nat):List (List Int):=(B0 n).drop 1
theorem J6:∀{j:Nat} {S:List Int},S∈B0 j↔S.Pairwise (· < ·)/\∀s∈S,0<=s/\s<(j:Int)
 |0,S=>by
  show S∈[[]]↔_;rw[ak]
  constructor
  ·rintro rfl;exact⟨kL,λs hs=>(nomatch hs)⟩
  ·rintro⟨_,h⟩;cases S with
   |nil=>rfl
   |cons s r=>have:=h s av;lia
 |j+1,S=>by
  show S∈B0 j++(B0 j).map _↔_;rw[az,bj]
  constructor
  ·rintro (h|⟨T,h,rfl⟩)
   ·have:=J6.mp h;exact⟨this.1,λs hs=>by have:=this.2 s hs;lia⟩
   ·have:=J6.mp h;refine⟨f_.mpr ⟨this.1,by simp,λa ha b hb=>?_⟩,λs hs=>?_⟩
    ·have:=this.2 a ha;rw[ak]at hb;lia
    ·rcases az.mp hs with z|z
     ·have:=this.2 s z;lia
     ·rw[ak]at z;lia
  ·rintro⟨h1,h2⟩;by_cases c:(j:Int)∈S
   ·refine .inr ⟨S.filter λs=>decide (s<(j:Int)),J6.mpr ⟨h1.filter _,λs hs=>?_⟩,?_⟩
    ·have:=bG.mp hs;exact⟨(h2 s this.1).1,aR this.2⟩
    ·refine a6a (f_.mpr ⟨h1.filter _,by simp,λa ha b hb=>?_⟩) h1 λx=>?_
     ·rw[ak]at hb;rw[hb];exact aR (bG.mp ha).2
     ·rw[az,bG,ak,bW]
      constructor
      ·rintro (z|z)
       ·exact z.1
       ·rw[z];exact c
      ·intro z;have:=h2 x z;by_cases e:x=j
       ·exact .inr e
       ·exact .inl ⟨z,by lia⟩
   ·refine .inl (J6.mpr ⟨h1,λs hs=>⟨(h2 s hs).1,?_⟩⟩);have:=h2 s hs;have:s≠(j:Int):=λe=>c (e▸hs)
    lia
theorem a0t:∀n,B0 n=[]::sts n
 |0=>rfl
 |n+1=>by
  unfold sts;show B0 n++_=[]::List.drop 1 (B0 n++_);rw[a0t n];rfl
theorem a3O:∀n,n<8->(B0 n).Nodup
 |0,_=>by show [[]].Nodup;simp
 |j+1,h=>by
  show (B0 j++(B0 j).map _).Nodup;have ih:=a3O j (by lia);rw[bh];refine⟨ih,?_,λx hx y hy e=>?_⟩
  ·exact Dg _ (λa b qO e=>qO (List.append_cancel_right e)) ih
  ·obtain⟨T,_,rfl⟩:=bj.mp hy;have:=(J6.mp hx).2 (j:Int) (by rw[e];simp);lia
theorem a1K:∀n,(B0 n).length=2^n
 |0=>rfl
 |j+1=>by
  show (B0 j++(B0 j).map _).length=_;rw[a_,ag,a1K j,Nat.pow_succ];lia
def a7w(h:n<=7):(B0 n).length<=128:=by
 rw[a1K];exact Nat.pow_le_pow_right (by decide) h
def a6d:∀n,n<8->(sts n).length<=127:=λn h=>by
 have:=a7w (n:=n) (by lia);unfold sts;rw[hJ];lia
def c0A:∀n,n<8->((sts n).filter λS=>!decide (S.length=1)).length<=120:=by decide +kernel
def b3G(h:n<=7):(sts n).Nodup:=by
 have:=a3O n (by lia);rw[a0t]at this;exact (bB.mp this).2
def L6{m:m7}(h:m.length<=7):S∈sts m.length↔SetK m S:=by
 have hn:=a3O m.length (by lia);have h1:=J6 (j:=m.length) (S:=S);rw[a0t]at hn h1;rw[aF]at h1
 constructor
 ·intro q;have:=h1.mp (.inr q);exact⟨this.1,λe=>(bB.mp hn).1 (e▸q),this.2⟩
 ·rintro⟨q1,q2,q3⟩;exact (h1.mpr ⟨q1,q3⟩).resolve_left q2
end VS
namespace Prog
open PySem L2 VS
theorem a3P:∀{l:List α},(∀a∈l,p a=q a)->l.find? p=l.find? q
 |[],_=>rfl
 |x::l,h=>by
  rw[iu,iu,h x av,a3P λa ha=>h a (aw _ ha)]
def SetK.len(h:SetK m b):b.length<=m.length:=a2i (h.1.imp λz=>by lia) h.2.2
def b5N{a b:List Int}(h:a.length+b.length<=1000000):a0P (.tuple (a.map .int)) (.tuple (b.map .int))=cz (.tuple ((a++b).map .int)):=by
 cases a with
 |nil=>exact a6w (by simp only[imm];exact x6 _)
 |cons x a=>
  show (if (!(((x::a).map aJ)).isEmpty&&decide (((x::a).map aJ).length+(b.map aJ).length<=1000000))=rp then V9 (.tuple ((x::a).map .int++b.map .int)) else p4)=_;rw[aC (by rw[ag,ag,aE h];rfl),<-aQ];exact a6w (by simp only[imm];exact x6 _)
def b1b{S:List Int}(h:S.length<1000):a0P (g7 S) (.tuple [.int j])=cz (g7 (S++[j])):=b5N (a:=S) (b:=[j]) (by simp;lia)
def b5O:∀n,n<8->1<=n->G5 (f6 (λ_=>.none) ((sts n).filter λS=>decide (S.length=1)))=rp:=by decide +kernel
def b3H:∀n,n<8->1<=n->((sts n).filter λS=>decide (S.length=1))≠[]:=by decide +kernel
def b5P(h:n<8)(h1:1<=n):G5 (f6 (m5 m k) (kdS m k (sts n) 0))=rp:=by
 have:f6 (m5 m k) (kdS m k (sts n) 0)=f6 (λ_=>.none) ((sts n).filter λS=>decide (S.length=1)):=by
  unfold f6 kdS;refine cL λS hS=>?_
  rw[show m5 m k S=.none from aC (aR (bG.mp hS).2)]
 rw[this];exact b5O n h h1
def a3Q(n:Nat)(h:n<=7):S6 [.int n]=cz (.list ((sts n).map g7)):=by
 unfold S6;rw[Q6 (by simp[VS.argsOk,imm])];unfold a4O;walk_at "ev";rw[a3Y (n:=n) (by walk_at "ev") (by lia) (by lia),bQ];walk_at "ev";refine U6 (λU=>∃x,U=[.int n,.list ((B0 n).map g7),x]) ?_ ?_
 ·obtain⟨U',g1,x,rfl⟩:=y9 (n:=n) (set:=u8 2) (g:=(m4 1 (eI (a5B (b7 1) (n8 (iI (iL (b7 1))) [2] pt1 tT (e2 a0P (b7 0) (Z3 (b8 (b7 1) i5)))))))) (U:=[.int n,.list [.tuple []],.none])
   (λj U=>∃x,U=[.int n,.list ((B0 j).map g7),x]) ⟨_,rfl⟩ (by
    rintro j hj U ⟨x,rfl⟩;have hl:=a7w (n:=j) (by lia);refine⟨_,[.int n,.list ((B0 (j+1)).map g7),.int j],rfl,?_,_,rfl⟩;show (m4 1 (eI (a5B (b7 1) (n8 (iI (iL (b7 1))) [2] pt1 tT (e2 a0P (b7 0) (Z3 (b8 (b7 1) i5))))))) [.int n,.list ((B0 j).map g7),.int j]=_;have hc:(n8 (iI (iL (b7 1))) [2] pt1 tT (e2 a0P (b7 0) (Z3 (b8 (b7 1) i5)))) [.int n,.list ((B0 j).map g7),.int j]=cz (.list (((B0 j).map λS=>S++[(j:Int)]).map g7)):=by
     rw[a0Y (enc:=g7) (xs:=B0 j) (λS=>g7 (S++[(j:Int)])) (a3y (by walk_at "ev") (o8 _ A0 _)) (by lia) λS hS=>⟨_,rfl,?_⟩]
     ·rw[bN];rfl
     ·have hm:=J6.mp hS;have ot:=a2i (n:=j) (hm.1.imp λz=>by lia) hm.2;show e2 a0P (b7 0) (Z3 (b8 (b7 1) i5)) [g7 S,.int j]=_;walk_at "ev";exact b1b (by lia)
    rw[a2W,a4L,b6m,hc];walk_at "ev";rw[b3i (by rw[ag,ag,ag];lia),<-aQ,a7l (o8 _ A0 _)];rfl)
  exact⟨_,g1,_,rfl⟩
 ·rintro U ⟨x,rfl⟩;have hl:0<(B0 n).length:=by rw[a1K];exact Nat.pow_pos (by decide)
  walk_at "ev";rw[c1F];walk_at "ev";rw[c0l,c0k];walk_at "ev";rw[c1G,c0j,b8s (by lia) (by rw[ag];lia),show (1:Int).toNat=1 from rfl,<-List.map_drop,a7l (o8 _ A0 _)];rfl
def bvD(m:m7)(k:Nat)(S:List Int):D:=.list ((aU k).map λ(a:Nat)=>bhD m a S)
section
variable {m:m7}{k:Nat}(w:WF m k)(h5:m.length<=7)
include w h5
theorem b8H(ha:a<k)(hS:SetK m S):tsl m (kdS m k (sts m.length) d) a S=tst (tb m k d) m a S:=by
 unfold tsl tst
 congr 1;rw[dJ,bD,bD];have key:∀s∈S,(decide (prt m a S (stp m s a).1∈kdS m k (sts m.length) d)=rp↔tb m k d (prt m a S (stp m s a).1)=rp):=λs hs=>by
  rw[bW,D6,L6 h5];exact⟨λq=>q.2,λq=>⟨SetK.prt w hS ha hs,q⟩⟩
 constructor
 ·intro q s hs;refine (key s hs).mp (q _ (a6c.mpr ?_));have:s∈(S.zip S).map (·.1):=by rw[U8];exact hs
  obtain⟨p,hp,rfl⟩:=bj.mp this;exact⟨p,hp,rfl⟩
 ·intro q x hx;obtain⟨p,hp,rfl⟩:=a6c.mp hx;have hs:p.1∈S:=by have:=bO (f:=Prod.fst) hp;rw[U8]at this;exact this
  exact (key p.1 hs).mpr (q p.1 hs)
theorem SetK.le5(hS:SetK m S):S.length<=7:=cU (SetK.len hS) h5
theorem a4i:∃d,z0 [.list (m.map rwD)]=cz (.dict (f6 (m5 m k) (kdS m k (sts m.length) d)))/\nwS m k (sts m.length) d=[]/\d<=120:=by
 have nI:=w.pos;have Ab:=w.k5;have uc:=a6d m.length (by lia);have hA:=b3G h5;obtain⟨d,r1,r2,r3⟩:=a0s (m:=m) (k:=k) hA (by lia) (b3H m.length (by lia) nI) (b5P (by lia) nI) (gm:=fnE [.i,.f] ([2].map λj=>([.list (m.map rwD),.dict (f6 (m5 m k) (kdS m k (sts m.length) 0)),.dict (f6 (bvD m k) (lfS m k (sts m.length) 0)),.none]:List D).getD j .none) (eCl q9 (b8 (e2 (Z5 rp) (b7 2) (b7 0)) (b8 (b7 1) i5)))) (λd hd S hS=>by
  have nV:=Z0.mp hS;have hK:=(L6 h5).mp nV.1;rw[c0w (by simp[VS.argsOk,A0])];show eCl q9 (b8 (e2 (Z5 rp) (b7 2) (b7 0)) (b8 (b7 1) i5)) [g7 S,.dict (f6 (m5 m k) (kdS m k (sts m.length) d)),.dict (f6 (bvD m k) (lfS m k (sts m.length) 0))]=_;walk_at "ev";rw[b6r (Z0.mpr ⟨nV.1,by cases x:tb m k 0 S with|false=>rfl|true=>have:=a4W x (cj d);rw[nV.2]at this;cases this⟩)];walk_at "ev";have ot:=SetK.le5 w h5 hK;rw[show bvD m k S=.list ((aU k).map λ(a:Nat)=>bhD m a S) from rfl,a1J Ab (by lia)];unfold lta;rw[a3P λa ha=>b8H w h5 (cw.mp ha) hK])
 refine⟨d,?_,r2,cU r3 (c0A m.length (by lia))⟩;unfold z0;rw[Q6 (by simp[VS.argsOk])];unfold a0V;walk_at "ev";rw[a3y (ds:=(sts m.length).map g7) (by walk_at "ev";rw[a3Q _ h5];walk_at "ev") (o8 _ A0 _)];walk_at "ev";refine U6 (λU=>∃x,U=[.list (m.map rwD),.dict (f6 (m5 m k) (kdS m k (sts m.length) 0)),.dict (f6 (bvD m k) (lfS m k (sts m.length) 0)),x]) ?_ ?_
 ·obtain⟨U',g1,x,rfl⟩:=R9 (enc:=g7) (set:=u8 3) (xs:=sts m.length) (g:=(sIf (tB (e2 dEq (eCl F7 (b8 (b7 3) i5)) (eC (.int 1)))) (z7 1 rp (b7 3) (eC .none)) (z7 2 rp (b7 3) (eCl A5 (b8 (b7 0) (b8 (b7 3) i5)))))) (U:=[.list (m.map rwD),.dict [],.dict [],.none])
   (λpre U=>∃x,U=[.list (m.map rwD),.dict (f6 (m5 m k) (kdS m k pre 0)),.dict (f6 (bvD m k) (lfS m k pre 0)),x]) ⟨_,rfl⟩ (by
    rintro pre S post e U ⟨x,rfl⟩;have FQ:S∈sts m.length:=by rw[e];simp
    have hK:=(L6 h5).mp FQ;have ot:=SetK.le5 w h5 hK;have mE:S∉pre:=by
     rw[e]at hA;have:=bh.mp hA;exact λz=>this.2.2 S z S av rfl
    have gh:pre.length<=127:=by rw[e,a_]at uc;lia
    have l1:(kdS m k pre 0).length<=pre.length:=dO _ _;have l2:(lfS m k pre 0).length<=pre.length:=dO _ _;refine⟨_,[.list (m.map rwD),.dict (f6 (m5 m k) (kdS m k (pre++[S]) 0)),.dict (f6 (bvD m k) (lfS m k (pre++[S]) 0)),g7 S],rfl,?_,_,rfl⟩;show (sIf (tB (e2 dEq (eCl F7 (b8 (b7 3) i5)) (eC (.int 1)))) (z7 1 rp (b7 3) (eC .none)) (z7 2 rp (b7 3) (eCl A5 (b8 (b7 0) (b8 (b7 3) i5))))) [.list (m.map rwD),.dict (f6 (m5 m k) (kdS m k pre 0)),.dict (f6 (bvD m k) (lfS m k pre 0)),g7 S]=_;have hlen:F7 [g7 S]=cz (.int S.length):=by show cz (aJ ((S.map aJ).length:Nat))=_;rw[ag]
    walk_at "ev";rw[hlen];walk_at "ev";by_cases c:S.length=1
    ·rw[aE (show (S.length:Int)=1 by lia)];walk_at "ev";rw[a2E (g:=m5 m k) (a:=S) (l:=kdS m k pre 0) (by rw[show m5 m k S=.none from aC c];rfl) rfl rfl (by lia)];have e1:kdS m k (pre++[S]) 0=a5Y S (kdS m k pre 0):=by
      unfold a5Y;rw[aI λz=>mE (D6.mp z).1];unfold kdS;rw[fO,e_ (by exact aE c)];rfl
     have e2:lfS m k (pre++[S]) 0=lfS m k pre 0:=by
      unfold lfS;rw[fO,fg (by show ¬ (!decide (S.length=1))=rp;rw[aE c];decide)];simp
     rw[e1,e2];rfl
    ·rw[aW (show ¬ (S.length:Int)=1 by lia)];walk_at "ev";rw[a2E (g:=bvD m k) (a:=S) (l:=lfS m k pre 0) (by walk_at "ev";rw[a3N w hK (by lia)];rfl) rfl rfl (by lia)];have e1:kdS m k (pre++[S]) 0=kdS m k pre 0:=by
      unfold kdS;rw[fO,fg (by rw[aW c];decide)];simp
     have e2:lfS m k (pre++[S]) 0=a5Y S (lfS m k pre 0):=by
      unfold a5Y;rw[aI λz=>mE (Z0.mp z).1];unfold lfS;rw[fO,e_ (by show (!decide (S.length=1))=rp;rw[aW c];rfl)];rfl
     rw[e1,e2];rfl)
  exact⟨_,g1,_,rfl⟩
 ·rintro U ⟨x,rfl⟩;walk_at "ev";have Cc:a8t (b7 2) [.list (m.map rwD),.dict (f6 (m5 m k) (kdS m k (sts m.length) 0)),.dict (f6 (bvD m k) (lfS m k (sts m.length) 0)),x]=cz (.list ((lfS m k (sts m.length) 0).map g7)):=by
   show (if e7 ((f6 (bvD m k) (lfS m k (sts m.length) 0)).map (·.1)) then cz (dX ((f6 (bvD m k) (lfS m k (sts m.length) 0)).map (·.1))) else p4)=_;rw[a4V,aC (o8 _ A0 _)]
  rw[c0v (ds:=[.dict (f6 (m5 m k) (kdS m k (sts m.length) 0)),.list ((lfS m k (sts m.length) 0).map g7)]) (by walk_at "ev";rw[Cc];walk_at "ev")];rw[show p9 (fnE [.i,.f] (List.map (λj=>([.list (m.map rwD),.dict (f6 (m5 m k) (kdS m k (sts m.length) 0)),.dict (f6 (bvD m k) (lfS m k (sts m.length) 0)),x]:List D).getD j .none) [2]) (eCl q9 (b8 (e2 (Z5 rp) (b7 2) (b7 0)) (b8 (b7 1) i5)))) [.dict (f6 (m5 m k) (kdS m k (sts m.length) 0)),.list ((lfS m k (sts m.length) 0).map g7)]=_ from r1];walk_at "ev"
end
def b3I{as:List (List Int)}(h:a U=cz (.list (as.map g7)))(hl:as.length<200)(gN:∀q∈as,q≠[]):a5O rp a U=cz (.list ((W5 as).map g7)):=by
 unfold a5O;rw[h,bC];show a3l rp (as.map g7)=_;unfold a3l;rw[a3G,bC,aC]
 ·rfl
 ·unfold okK;rw[aE (by lia),ny];have:(as.all λns=>!ns.isEmpty)=rp:=by
   rw[bD];intro ns rU;have:=gN ns rU;simpa using this
  rw[this,Bool.or_true]
def a2n{m:m7}(h7:m.length<=7):v5 [.list (m.map rwD)]=cz .none:=by
 unfold v5;rw[c0r (by simp[VS.argsOk])];unfold P3;walk_at "evn";rw[aW (show ¬ (7:Int)<m.length by lia)];walk_at "evn"
def b3J{m:m7}(h5:m.length<=7)(nJ:z0 [.list (m.map rwD)]=cz (.dict (f6 g l))):Y7 [.list (m.map rwD)]=cz (.list (((W5 (sts m.length)).filter λS=>!decide (S∈l)).map iD)):=by
 have uc:=a6d m.length (by lia);unfold Y7;rw[Q6 (by simp[VS.argsOk])];unfold a9p;walk_at "ev";rw[a2n (by lia)];walk_at "ev";rw[nJ];walk_at "ev";rw[a9u (enc:=g7) (xs:=W5 (sts m.length)) (λS=>!decide (S∈l)) iD (a3y (by rw[b5v,b3I (as:=sts m.length) (by walk_at "ev";rw[a3Q _ h5]) (by lia) λq hq=>((L6 h5).mp hq).2.1];rfl) (o8 _ A0 _)) (by rw[(E9 _).length_eq];lia) λS hS=>?_]
 ·walk_at "ev"
 ·refine⟨_,rfl,?_,λ_=>?_⟩
  ·show tB (e2 (Z4 rp rp) (b7 0) (b7 1)) [g7 S,.dict (f6 g l)]=_;walk_at "ev";rw[a7p];cases decide (S∈l)<;>rfl
  ·show eI (W1 (b7 0)) [g7 S,.dict (f6 g l)]=cz (iD S);rw[a4L,a2B];exact a5T
section
variable {m:m7}{k:Nat}(w:WF m k)(h5:m.length<=7){d:Nat}(hd:d<=120)
include w h5 hd
theorem b3K:∀(j:Nat),j<=d->∀(B:BG) (S:List Int),SetK m S->(∀s,s∈B.map (·.1)↔s∈S)->(B.map (·.1)).Nodup->tb m k j S=rp->∀f,j<f->∃t,L4 f [.list (m.map rwD),.dict (f6 (m5 m k) (kdS m k (sts m.length) d)),bgD B]=cz t/\isN t=xn:=by
 intro j
 induction j using Nat.strongRecOn with
 |_ j ih=>
  intro hj B S hS hB hn ht f hf;obtain⟨f,rfl⟩:∃q,f=q+1:=⟨f-1,by lia⟩;have ot:=SetK.le5 w h5 hS;have tO:(B.map (·.1)).Perm S:=(rN hn (hS.1.imp λh=>by lia)).mpr hB;have Gd:B.length=S.length:=by have:=tO.length_eq;rw[ag]at this;exact this
  have hu:L4 (f+1) [.list (m.map rwD),.dict (f6 (m5 m k) (kdS m k (sts m.length) d)),bgD B]=a2V (a5X (L4 f) [.list (m.map rwD),.dict (f6 (m5 m k) (kdS m k (sts m.length) d)),bgD B,.none,.none,.none,.none]):=by
   show fnD _ _ _ _=_;rw[Q6 (by simp[VS.argsOk])];rfl
  rw[hu];unfold a5X;have hlen:b2g [bgD B]=cz (.int B.length):=by show cz (aJ ((kvD aJ B).length:Nat))=_;rw[a9s]
  walk_at "ev";rw[hlen];walk_at "ev";by_cases c:S.length=1
  ·rw[aE (show (B.length:Int)=1 by lia)];obtain⟨p,rfl⟩:∃p,B=[p]:=by
    match B,Gd.trans c with
    |[p],_=>exact⟨p,rfl⟩
   walk_at "ev";rw[b5E (W:=[p]) rfl];exact⟨.int p.2,rfl,rfl⟩
  ·rw[aW (show ¬ (B.length:Int)=1 by lia)];walk_at "ev";obtain⟨e,a,he,ha,Aw,sv⟩:=b3A j (by lia) ht c;have jU:H9 (K5 xn (b7 2)) [.list (m.map rwD),.dict (f6 (m5 m k) (kdS m k (sts m.length) d)),bgD B,.none,.none,.none,.none]=cz (g7 S):=by
    rw[a3z,a3L (kvs:=kvD aJ B) (es:=B.map (·.1)) rfl b3s (by rw[ag];lia),a9v hn,show a5Z (B.map (·.1))=S from a6a (a1b _) hS.1 λx=>by rw[a1a];exact hB x];exact W8
   have mG:S∈kdS m k (sts m.length) d:=D6.mpr ⟨(L6 h5).mpr hS,a4W ht hj⟩;rw[jU];walk_at "ev";rw[b6r mG,Aw];walk_at "ev";unfold tst at sv;rw[ar]at sv;have tW:C7 m a (B.map (·.1))=rp:=by rw[b0Z tO];exact sv.1
   rw[a1f w ha (λp hp=>hS.2.2 p.1 ((hB p.1).mp (bO hp))) (by lia),aC tW];walk_at "ev";have vf:=a6b (m:=m) (a:=a) (B:=B);have zH:K5 xn (b7 4) [.list (m.map rwD),.dict (f6 (m5 m k) (kdS m k (sts m.length) d)),bgD B,.int a,ptD m a B,.list [],.none]=cz (iD (a3F (anL m a B))):=a3L (kvs:=r8 (λx=>bgD (gp m a B x)) (anL m a B)) rfl a4X (by lia);rw[a3y (ds:=(a3F (anL m a B)).map .int) (by rw[b5v,zH];rfl) (x6 _)];walk_at "ev";have u_:((B.map (·.1)).map λs=>stp m s a).Nodup:=aR tW;obtain⟨U',g1,ds,x,rm,rfl⟩:=R9 (enc:=aJ) (set:=u8 6) (xs:=a3F (anL m a B)) (g:=(O1 5 (.l .f) B9 (Z3 (b8 (b7 6) (b8 (eCl (L4 f) (b8 (b7 0) (b8 (b7 1) (b8 (e2 (Z5 xn) (b7 4) (b7 6)) i5)))) i5))))) (U:=[.list (m.map rwD),.dict (f6 (m5 m k) (kdS m k (sts m.length) d)),bgD B,.int a,ptD m a B,.list [],.none])
    (λpre U=>∃(ds:List D) (x:D),ds.length=pre.length/\U=[.list (m.map rwD),.dict (f6 (m5 m k) (kdS m k (sts m.length) d)),bgD B,.int a,ptD m a B,.list ds,x]) ⟨[],_,rfl,rfl⟩ (by
     rintro pre x post e9 U ⟨ds,y,rm,rfl⟩;have hx:x∈anL m a B:=(Y9 _).mem_iff.mp (by rw[e9];simp);obtain⟨p,hp,BU⟩:=a6c.mp hx;have BX:p.1∈S:=(hB p.1).mp (bO hp);have gh:pre.length<=31:=by
      have h1:=d_ gA e9;rw[(Y9 _).length_eq,a_]at h1;lia
     obtain⟨t,wI,_⟩:=ih e he (by lia) (gp m a B x) (prt m a S x) (by rw[<-BU];exact SetK.prt w hS ha BX) (λs=>by
      rw[a2H,a2F,a1c];exact⟨λ⟨q,hq,z⟩=>⟨q,(hB q).mp hq,z⟩,λ⟨q,hq,z⟩=>⟨q,(hB q).mpr hq,z⟩⟩) (by rw[a2H];exact a8H u_) (by rw[<-BU];exact bD.mp sv.2 p.1 BX) f (by lia)
     refine⟨_,[.list (m.map rwD),.dict (f6 (m5 m k) (kdS m k (sts m.length) d)),bgD B,.int a,ptD m a B,.list (ds++[.tuple [.int x,t]]),.int x],rfl,?_,_,_,by simp[rm],rfl⟩;have hv:Z3 (b8 (b7 6) (b8 (eCl (L4 f) (b8 (b7 0) (b8 (b7 1) (b8 (e2 (Z5 xn) (b7 4) (b7 6)) i5)))) i5)) [.list (m.map rwD),.dict (f6 (m5 m k) (kdS m k (sts m.length) d)),bgD B,.int a,ptD m a B,.list ds,.int x]=cz (.tuple [.int x,t]):=by
      walk_at "ev";rw[show Z5 xn (ptD m a B) (.int x)=cz (bgD (gp m a B x)) from b3D hx];walk_at "ev";rw[wI];walk_at "ev"
     show O1 5 (.l .f) B9 _ [.list (m.map rwD),.dict (f6 (m5 m k) (kdS m k (sts m.length) d)),bgD B,.int a,ptD m a B,.list ds,.int x]=_;rw[b2d,hv];show a9Z 5 (.list ds) (cz (.tuple [.int x,t])) _=_;rw[P9 (by lia)];rfl)
   rw[g1];walk_at "ev";exact⟨_,rfl,rfl⟩
theorem a7x(nJ:z0 [.list (m.map rwD)]=cz (.dict (f6 (m5 m k) (kdS m k (sts m.length) d))))(Fu:d<=120)(hS:SetK m S):∃t,A6 [.list (m.map rwD),iD S]=cz t/\isN t=!decide (S∈kdS m k (sts m.length) d):=by
 have ot:=SetK.le5 w h5 hS;have kc:S.Nodup:=hS.1.imp λh=>by lia
 unfold A6;rw[Q6 (by simp[VS.argsOk])];unfold a0e;walk_at "ev";rw[nJ];walk_at "ev";rw[show H9 (b7 1) [.list (m.map rwD),iD S,.dict (f6 (m5 m k) (kdS m k (sts m.length) d))]=cz (g7 S) by rw[a3z];exact W8];walk_at "ev";rw[a7p];by_cases c:S∈kdS m k (sts m.length) d
 ·rw[aE c];walk_at "ev";rw[a3M (l:=rp) (S:=S) rfl kc (by lia)];walk_at "ev";obtain⟨t,h1,h2⟩:=b3K w h5 hd d (ay _) (S.zip S) S hS (λs=>by rw[U8]) (by rw[U8];exact kc) (D6.mp c).2 121 (by lia);rw[h1];exact⟨t,rfl,h2⟩
 ·rw[aW c];walk_at "ev";exact⟨.none,rfl,rfl⟩
end
def b5Q{m:m7}(h7:m.length<=7):a3D [.list (m.map rwD)]=A6 [.list (m.map rwD),iD ((aU m.length).map λ(j:Nat)=>(j:Int))]:=by
 unfold a3D;rw[Q6 (by simp[VS.argsOk])];unfold b3p;walk_at "ev";rw[a2n h7];walk_at "ev";rw[show L5 [.list (m.map rwD)]=cz (iD ((aU m.length).map λ(j:Nat)=>(j:Int))) by
  unfold L5;rw[Q6 (by simp[VS.argsOk])];unfold a0W;walk_at "ev";rw[show a5P (eCl F7 (b8 (b7 0) i5)) [.list (m.map rwD)]=cz (iD ((aU m.length).map λ(j:Nat)=>(j:Int))) by
   unfold a5P;walk_at "ev";show (if -(2^62)<=(m.length:Int)/\(m.length:Int)<=1000000 then cz (dX (B8 0 (m.length:Int).toNat)) else p4)=_;rw[aC ⟨by lia,by lia⟩,bQ,Y6];unfold iD;rw[bN];rfl]
  walk_at "ev"]
 walk_at "ev";cases A6 [.list (m.map rwD),iD ((aU m.length).map λ(j:Nat)=>(j:Int))]<;>rfl
def b5R(hk:fk U=cz k)(he:fe U=cz d)(hd:U.getD i .none=.dict kvs)(hK:m9 kt k=rp)(hg:D0 kvs k=cz (.list es))(hl:es.length<1000000) :
  a4F i kt fk fe U=cz (.nx (U.set i (.dict (n4 kvs k (.list (es++[d])))))):=by
 unfold a4F;rw[hk,bC,he,bC,hd];show (if m9 kt k=rp then _ else _)=_;rw[aC hK,hg];show (if es.length<1000000 then _ else _)=_;rw[aC hl]
theorem a4Y(e:Int):∀es:List Int,((es.map aJ).any λd=>aH d (.int e))=decide (e∈es)
 |[]=>rfl
 |x::es=>by
  rw[aA,kU,a4Y e es,a2C,dJ];simp only[iw,bW,aF];exact or_congr_left eq_comm
def b8I:b0s neg (.int e) (iD es)=cz (.bool (neg !=decide (e∈es))):=by
 show (if bp (es.map aJ)&&(aJ e).canLay0&&decide ((aJ e).depth<=60) then cz (dE (neg !=(es.map aJ).any λd=>aH d (.int e))) else p4)=_;rw[Y4 _ (λ_=>a5S),a5S,Y5,a4Y];rfl
def b5S(h:a U=cz (iD ns))(hl:ns.length<60):a4z a U=cz (iD (srt ns)):=by
 unfold a4z;rw[h,bC];show (intsOf (ns.map .int)).bind _=_;rw[U2,bC,aC (by lia)]
section
variable {m:m7}{a:Nat}{S:List Int}{x s:Int}
def a7y:toA m a (S++[s]) x=if (stp m s a).1=x then toA m a S x++[(stp m s a).2] else toA m a S x:=by
 unfold toA;rw[fO,aQ];by_cases c:(stp m s a).1=x
 ·rw[aC c,e_ (by exact aE c)];rfl
 ·rw[aI c,fg (by rw[aW c];exact bo)];simp
def b3L(h:x∉ddE (S.map λs=>(stp m s a).1)):toA m a S x=[]:=by
 unfold toA;rw[lI.mpr λs hs c=>h ((Z1 _).mpr (bj.mpr ⟨s,hs,aR c⟩))];rfl
def b3M:(toA m a S x).length<=S.length:=by unfold toA;rw[ag];exact dO _ _
def a4Z:C7 m a (S++[s])=(C7 m a S&&!decide ((stp m s a).2∈toA m a S (stp m s a).1)):=by
 have hm:((stp m s a).2∈toA m a S (stp m s a).1)↔stp m s a∈S.map λs=>stp m s a:=by
  rw[a2F,bj]
 unfold C7;rw[dJ,ar,bW,bW,aQ,bh,fm,gi,hm]
 constructor
 ·rintro⟨h1,_,h3⟩;exact⟨h1,λz=>h3 _ z _ (ak.mpr rfl) rfl⟩
 ·rintro⟨h1,h2⟩;exact⟨h1,by simp,λx hx y hy e=>h2 (by have:=ak.mp hy;subst this;subst e;exact hx)⟩
def b1c(h:C7 m a (S++T)=rp):C7 m a S=rp:=by
 unfold C7 at h ⊢;rw[bW]at h ⊢;rw[aQ]at h;exact (bh.mp h).1
end
section
variable {m:m7}{k:Nat}(w:WF m k){a:Nat}(ha:a<k){S:List Int}(hS:SetK m S)(ot:S.length<=30){g:List Int->D}{l:List (List Int)}
include w ha hS ot
theorem a3R:m_law_shut_by [.list (m.map rwD),.dict (f6 g l),g7 S,.int a]=cz (.bool !(C7 m a S&&S.all λs=>!decide (prt m a S (stp m s a).1∈l))):=by
 unfold m_law_shut_by;rw[Q6 (by simp[VS.argsOk,A0,imm])];unfold b_law_shut_by;walk_at "ev";rw[a3y (ds:=S.map .int) (c1V (by walk_at "ev";rfl)) (x6 _)];walk_at "ev";rcases Y8 (enc:=aJ) (set:=u8 5) (xs:=S) (g:=(i9 (a4v 6 7 (e2 C4 (e2 dIx (b7 0) (b7 5)) (b7 3))) (i9 (sIf (tB (e2 (dIn rp xn) (b7 6) (b7 4))) (z7 4 xn (b7 6) (P7 i5)) x0) (i9 (sIf (tB (e2 (b0s xn) (b7 7) (e2 (b0c xn) (b7 4) (b7 6)))) (p6 (eC (.bool rp))) x0) (a4F 4 xn (b7 6) (b7 7)))))) (U:=[.list (m.map rwD),.dict (f6 g l),g7 S,.int a,.dict [],.none,.none,.none])
   (λpre U=>C7 m a pre=rp/\∃x y z,U=[.list (m.map rwD),.dict (f6 g l),g7 S,.int a,.dict (r8 (λx=>iD (toA m a pre x)) (ddE (pre.map λs=>(stp m s a).1))),x,y,z]) (λr=>r=.bool rp/\C7 m a S=xn) ⟨rfl,_,_,_,rfl⟩ (by
    rintro pre s post e U ⟨hf,x,y,z,rfl⟩;have hs:=hS.2.2 s (by rw[e];simp);have hr:=w.row hs.1 hs.2;have gh:pre.length<=30:=by rw[e,a_]at ot;lia
    have BN:=b3M (m:=m) (a:=a) (S:=pre) (x:=(stp m s a).1);have rm:=a9y (pre.map λs=>(stp m s a).1);rw[ag]at rm;refine⟨[.list (m.map rwD),.dict (f6 g l),g7 S,.int a,.dict (r8 (λx=>iD (toA m a pre x)) (ddE (pre.map λs=>(stp m s a).1))),.int s,y,z],rfl,?_⟩;have hc:a4v 6 7 (e2 C4 (e2 dIx (b7 0) (b7 5)) (b7 3)) [.list (m.map rwD),.dict (f6 g l),g7 S,.int a,.dict (r8 (λx=>iD (toA m a pre x)) (ddE (pre.map λs=>(stp m s a).1))),.int s,y,z]=cz (.nx [.list (m.map rwD),.dict (f6 g l),g7 S,.int a,.dict (r8 (λx=>iD (toA m a pre x)) (ddE (pre.map λs=>(stp m s a).1))),.int s,.int (stp m s a).1,.int (stp m s a).2]):=by
     walk_at "ev";rw[b5x hs.1 hs.2];walk_at "ev";rw[c0n (by lia) (by lia)];walk_at "ev";rfl
    have hi:(sIf (tB (e2 (dIn rp xn) (b7 6) (b7 4))) (z7 4 xn (b7 6) (P7 i5)) x0) [.list (m.map rwD),.dict (f6 g l),g7 S,.int a,.dict (r8 (λx=>iD (toA m a pre x)) (ddE (pre.map λs=>(stp m s a).1))),.int s,.int (stp m s a).1,.int (stp m s a).2]=cz (.nx [.list (m.map rwD),.dict (f6 g l),g7 S,.int a,.dict (r8 (λx=>iD (toA m a pre x)) (T1 (stp m s a).1 (ddE (pre.map λs=>(stp m s a).1)))),.int s,.int (stp m s a).1,.int (stp m s a).2]):=by
     rw[a6v];have mG:dIn rp xn (.int (stp m s a).1) (.dict (r8 (λx=>iD (toA m a pre x)) (ddE (pre.map λs=>(stp m s a).1))))=cz (.bool !decide ((stp m s a).1∈ddE (pre.map λs=>(stp m s a).1))):=by
      rw[a9x,b8z,bN]
      congr 3;rw[show ((λx:Int×Int=>x.1) ∘ λx:Int=>(x,x))=λx=>x from rfl,g_];cases decide ((stp m s a).1∈ddE (pre.map λs=>(stp m s a).1))<;>rfl
     walk_at "ev";rw[mG];walk_at "ev";by_cases c:(stp m s a).1∈ddE (pre.map λs=>(stp m s a).1)
     ·rw[aE c];unfold T1;rw[aC c];rfl
     ·rw[aW c];show z7 4 xn (b7 6) (P7 i5) [.list (m.map rwD),.dict (f6 g l),g7 S,.int a,.dict (r8 (λx=>iD (toA m a pre x)) (ddE (pre.map λs=>(stp m s a).1))),.int s,.int (stp m s a).1,.int (stp m s a).2]=_;rw[b3u (kt:=xn) (k:=.int (stp m s a).1) (d:=.list []) (kvs:=r8 (λx=>iD (toA m a pre x)) (ddE (pre.map λs=>(stp m s a).1))) rfl rfl rfl (dKey_i _) (by rw[a7s];lia)];unfold T1 n4;rw[aI c,a1H,aW c,aI bo];unfold r8;rw[aQ];show _=cz (Out.nx [_,_,_,_,.dict (_++[(aJ (stp m s a).1,iD (toA m a pre (stp m s a).1))]),_,_,_]);rw[b3L c];rfl
    have mF:(stp m s a).1∈T1 (stp m s a).1 (ddE (pre.map λs=>(stp m s a).1)):=a3E.mpr (.inr rfl);have rX:=a1I (g:=λx=>iD (toA m a pre x)) mF;rw[I9,hc,E7,I9,hi,E7];have ht:(tB (e2 (b0s xn) (b7 7) (e2 (b0c xn) (b7 4) (b7 6)))) [.list (m.map rwD),.dict (f6 g l),g7 S,.int a,.dict (r8 (λx=>iD (toA m a pre x)) (T1 (stp m s a).1 (ddE (pre.map λs=>(stp m s a).1)))),.int s,.int (stp m s a).1,.int (stp m s a).2]=cz (decide ((stp m s a).2∈toA m a pre (stp m s a).1)):=by
     walk_at "ev";rw[show b0c xn (.dict (r8 (λx=>iD (toA m a pre x)) (T1 (stp m s a).1 (ddE (pre.map λs=>(stp m s a).1))))) (.int (stp m s a).1)=cz (iD (toA m a pre (stp m s a).1)) by
      show (if m9 xn (.int (stp m s a).1) then D0 _ _ else p4)=_;rw[dKey_i,aC rfl,rX]]
     walk_at "ev";rw[b8I,rR];rfl
    rw[I9,a6v,ht];by_cases c:(stp m s a).2∈toA m a pre (stp m s a).1
    ·rw[aE c];refine .inr ⟨.bool rp,rfl,rfl,?_⟩;cases x:C7 m a S with
     |false=>rfl
     |true=>
      have e2:S=(pre++[s])++post:=by rw[e];simp
      rw[e2]at x;have:=b1c x;rw[a4Z,aE c,hf]at this;cases this
    ·rw[aW c];refine .inl ⟨[.list (m.map rwD),.dict (f6 g l),g7 S,.int a,.dict (r8 (λx=>iD (toA m a (pre++[s]) x)) (ddE ((pre++[s]).map λs=>(stp m s a).1))),.int s,.int (stp m s a).1,.int (stp m s a).2],?_,?_,_,_,_,rfl⟩
     ·show a4F 4 xn (b7 6) (b7 7) [.list (m.map rwD),.dict (f6 g l),g7 S,.int a,.dict (r8 (λx=>iD (toA m a pre x)) (T1 (stp m s a).1 (ddE (pre.map λs=>(stp m s a).1)))),.int s,.int (stp m s a).1,.int (stp m s a).2]=_;rw[b5R (kt:=xn) (k:=.int (stp m s a).1) (d:=.int (stp m s a).2) (es:=(toA m a pre (stp m s a).1).map .int) rfl rfl rfl (dKey_i _) rX (by rw[ag];lia)];have e2:=a7t (g:=λx=>iD (toA m a pre x)) (h:=λx=>iD (toA m a (pre++[s]) x)) mF (λy hy=>by
       show iD (toA m a (pre++[s]) y)=iD (toA m a pre y);rw[a7y,aI λz=>hy z.symm])
      rw[aQ,show [s].map (λs=>(stp m s a).1)=[(stp m s a).1] from rfl,a1e,<-e2,a7y,aC rfl];unfold iD;rw[aQ];rfl
     ·rw[a4Z,aW c,hf];rfl) with⟨U',g1,hf,x,y,z,rfl⟩|⟨r,g1,rfl,hf⟩
 ·rw[g1,hf];walk_at "ev";have pG:(S.map λs=>stp m s a).Nodup:=aR hf;have hk:iDk (b7 4) [.list (m.map rwD),.dict (f6 g l),g7 S,.int a,.dict (r8 (λx=>iD (toA m a S x)) (ddE (S.map λs=>(stp m s a).1))),x,y,z]=cz ((ddE (S.map λs=>(stp m s a).1)).map .int):=by
   show (if D8 ((r8 (λx=>iD (toA m a S x)) (ddE (S.map λs=>(stp m s a).1))).map (·.1)) then p4 else cz ((r8 (λx=>iD (toA m a S x)) (ddE (S.map λs=>(stp m s a).1))).map (·.1)))=_;rw[a4X,aI];cases ddE (S.map λs=>(stp m s a).1)<;>exact bo
  rw[a3y (ds:=(ddE (S.map λs=>(stp m s a).1)).map .int) hk (x6 _)];walk_at "ev";rcases Y8 (enc:=aJ) (set:=u8 6) (xs:=ddE (S.map λs=>(stp m s a).1)) (g:=(sIf (tB (e2 (Z4 xn rp) (H9 (a4z (e2 (Z5 xn) (b7 4) (b7 6)))) (b7 1))) (p6 (eC (.bool rp))) x0)) (U:=[.list (m.map rwD),.dict (f6 g l),g7 S,.int a,.dict (r8 (λx=>iD (toA m a S x)) (ddE (S.map λs=>(stp m s a).1))),x,y,z])
   (λpre U=>(∀v∈pre,prt m a S v∉l)/\∃y,U=[.list (m.map rwD),.dict (f6 g l),g7 S,.int a,.dict (r8 (λx=>iD (toA m a S x)) (ddE (S.map λs=>(stp m s a).1))),x,y,z]) (λr=>r=.bool rp/\∃v∈ddE (S.map λs=>(stp m s a).1),prt m a S v∈l) ⟨λv hv=>(nomatch hv),_,rfl⟩ (by
    rintro pre v post e U ⟨hv,y,rfl⟩;have BJ:v∈ddE (S.map λs=>(stp m s a).1):=by rw[e];simp
    have BN:=b3M (m:=m) (a:=a) (S:=S) (x:=v);refine⟨[.list (m.map rwD),.dict (f6 g l),g7 S,.int a,.dict (r8 (λx=>iD (toA m a S x)) (ddE (S.map λs=>(stp m s a).1))),x,.int v,z],rfl,?_⟩;have ht:tB (e2 (Z4 xn rp) (H9 (a4z (e2 (Z5 xn) (b7 4) (b7 6)))) (b7 1)) [.list (m.map rwD),.dict (f6 g l),g7 S,.int a,.dict (r8 (λx=>iD (toA m a S x)) (ddE (S.map λs=>(stp m s a).1))),x,.int v,z]=cz (decide (prt m a S v∈l)):=by
     walk_at "ev";rw[a3z,b5S (ns:=toA m a S v) (by walk_at "ev";exact b3D BJ) (by lia),b5I (a8H pG),W8];walk_at "ev";rw[show Z4 xn rp (.tuple ((a5Z (toA m a S v)).map .int)) (.dict (f6 g l))=_ from a7p (a:=prt m a S v),rR];rfl
    rw[a6v,ht];by_cases c:prt m a S v∈l
    ·rw[aE c];exact .inr ⟨_,rfl,rfl,v,BJ,c⟩
    ·rw[aW c];exact .inl ⟨_,rfl,λu hu=>(az.mp hu).elim (hv u) λq=>by rw[ak.mp q];exact c,_,rfl⟩) with⟨U',g2,hv,y,rfl⟩|⟨r,g2,rfl,v,zD,zC⟩
  ·rw[g2];walk_at "ev";rw[bD.mpr λs hs=>by rw[aW (hv _ ((Z1 _).mpr (bj.mpr ⟨s,hs,rfl⟩)))];rfl];rfl
  ·rw[g2];walk_at "ev";obtain⟨s,hs,rfl⟩:=bj.mp ((Z1 _).mp zD);rw[List.all_eq_false.mpr ⟨s,hs,by rw[aE zC];decide⟩];rfl
 ·rw[g1,hf];walk_at "ev"
end
end Prog
local macro_rules | `(tactic| walk_at "evm")=>`(tactic| first | (walk_at "ev";repeat (simp -implicitDefEqProofs (disch:=first | omega | assumption | decide) only [VS.a1o,VS.a1p,VS.S9];try walk_at "ev")) | (simp -implicitDefEqProofs (disch:=first | omega | assumption | decide) only [VS.a1o,VS.a1p,VS.S9];repeat (first | walk_at "ev" | simp -implicitDefEqProofs (disch:=first | omega | assumption | decide) only [VS.a1o,VS.a1p,VS.S9])))
namespace Prog
open PySem L2 VS
abbrev M0(ns:List Int)(sm la:Nat)(fi:List Int)(n k q:Nat)(xs rows:List Int)(t:List D):List D:=.list (ns.map .int)::.int sm::.int la::.list (fi.map .int)::.int n::.int k::.int q::.list (xs.map .int)::.list (rows.map .int)::t
abbrev b3N:EvS:=(i9 (m4 13 (e2 N2 (b7 7) (e2 w9 (e2 w9 (e2 w9 (eC (.int 3)) (b7 4)) (e2 N0 (e2 N2 (b7 8) (b7 10)) (b7 5))) (b7 12)))) (i9 (m4 14 (n8 (iR (b7 4)) [6,8,13] pt1 (tB (e2 dEq (e2 N2 (b7 2) (b7 0)) (e2 F6 (b7 3) (b7 1)))) (b7 0))) (i9 (m4 15 (e2 N2 (b7 7) (e2 w9 (e2 w9 (e2 w9 (e2 w9 (eC (.int 3)) (b7 4)) (e2 N0 (b7 4) (b7 5))) (e2 N0 (b7 10) (b7 5))) (b7 12)))) (O1 11 (.l .i) B9 (Z3 (b8 (eCl m_law_answer (b8 (e2 a0z (b7 13) (b7 6)) (b8 (b7 7) i5))) (b8 (e2 N2 (b7 14) (e2 F6 (b7 15) (eCl F7 (b8 (b7 14) i5)))) i5)))))))
abbrev b8J:EvS:=(i9 (m4 11 (P7 i5)) (i9 (F8 (iR (b7 5)) (u8 12) b3N) (O1 9 (.l (.l .i)) B9 (b7 11))))
abbrev b8K:EvS:=(sIf (tB (e2 dLt (b7 4) (b7 2))) (O1 3 (.l .i) B9 (e2 F6 (e2 w9 (b7 4) (e2 a0z (e2 C4 (b7 0) (eC (.int 0))) (eC (.int 1000)))) (b7 2))) (O1 3 (.l .i) B9 (e2 F6 (e2 C4 (b7 0) (e2 w9 (eC (.int 3)) (b7 4))) (b7 2))))
local macro_rules | `(tactic| walk_at "ev1")=>`(tactic| simp -implicitDefEqProofs only [VS.I9,VS.a2W,VS.b6e,VS.b6d,VS.a8W,VS.b2b,VS.E7,kr,iB])
def P5:Int:=10^64
def b3O:1000<P5:=by decide
def a8K(ns:List Int)(k:Int)(h0:0<=k):∃c:Int,m_law_cell_at [.list (ns.map .int),.int k]=cz (.int c):=by
 unfold m_law_cell_at;rw[Q6 (by simp[VS.argsOk,imm])];unfold b_law_cell_at;walk_at "evm";by_cases c:k<(ns.length:Int)
 ·rw[aE c];walk_at "evm";exact⟨_,rfl⟩
 ·rw[aW c];walk_at "evm";exact⟨_,rfl⟩
def a7z(ns:List Int)(n:Nat)(h1:n<=1000):∃xs:List Int,m_law_cells [.list (ns.map .int),.int n]=cz (.list (xs.map .int))/\xs.length=n/\∀x∈xs,0<=x:=by
 unfold m_law_cells;rw[Q6 (by simp[VS.argsOk,imm])];unfold b_law_cells;walk_at "evm";rw[a3Y (n:=n) (by walk_at "evm") (by lia) (by lia),bQ];walk_at "evm";refine W7 (R:=λo=>∃xs:List Int,o=cz (.list (xs.map .int))/\xs.length=n/\∀x∈xs,0<=x) (λU=>∃(xs:List Int) (q:Int) (y z:D),xs.length=n/\(∀x∈xs,0<=x)/\U=[.list (ns.map .int),.int n,.list (xs.map .int),.int q,y,z]) ?_ ?_
 ·obtain⟨U',g1,xs,q,y,z,e1,e2,e3,rfl⟩:=y9 (n:=n) (set:=u8 4) (g:=(i9 (m4 5 (e2 F6 (eCl m_law_cell_at (b8 (b7 0) (b8 (b7 4) i5))) (e2 a5q (eC (.int 10)) (eC (.int 64))))) (i9 (m4 3 (e2 F6 (e2 w9 (e2 w9 (e2 w9 (e2 N0 (b7 3) (eC (.int 69621))) (e2 N0 (b7 5) (eC (.int 40014)))) (e2 N0 (b7 4) (b7 4))) (eC (.int 1))) (eC (.int 2147483563)))) (sIf (tB (e2 dLt (b7 4) (eCl F7 (b8 (b7 0) i5)))) (O1 2 (.l .i) B9 (b7 5)) (O1 2 (.l .i) B9 (b7 3)))))) (U:=[.list (ns.map .int),.int n,.list [],.int 48271,.none,.none])
   (λj U=>∃(xs:List Int) (q:Int) (y z:D),xs.length=j/\(∀x∈xs,0<=x)/\0<=q/\U=[.list (ns.map .int),.int n,.list (xs.map .int),.int q,y,z]) ⟨[],48271,_,_,rfl,λx hx=>(nomatch hx),by decide,rfl⟩ (by
    rintro j hj U ⟨xs,q,y,z,e1,e2,e3,rfl⟩;obtain⟨c,hc⟩:=a8K ns j (by lia);have hq:=dU (q*69621+c % P5*40014+(j:Int)*j+1) (show (2147483563:Int)≠0 by decide);have hp:=b3O;have yr:=dU c (show P5≠0 by lia);have CP:(10^(64:Int).toNat:Int)=P5:=by decide
    by_cases cl:(j:Int)<ns.length
    ·refine⟨_,[.list (ns.map .int),.int n,.list ((xs++[c % P5]).map .int),.int ((q*69621+c % P5*40014+(j:Int)*j+1) % 2147483563),.int j,.int (c % P5)],rfl,?_,xs++[c % P5],_,_,_,by rw[a_,e1];rfl,?_,hq,rfl⟩
     ·walk_at "evm";rw[hc,v_pow (i:=10) (j:=64) (by decide),CP];generalize P5=T at hp;walk_at "evm";rw[aE cl];walk_at "evm";rw[P9 (by rw[ag];lia),aQ];rfl
     ·intro x hx;rcases az.mp hx with z|z
      ·exact e2 x z
      ·rw[ak.mp z];exact yr
    ·refine⟨_,[.list (ns.map .int),.int n,.list ((xs++[(q*69621+c % P5*40014+(j:Int)*j+1) % 2147483563]).map .int),.int ((q*69621+c % P5*40014+(j:Int)*j+1) % 2147483563),.int j,.int (c % P5)],rfl,?_,xs++[(q*69621+c % P5*40014+(j:Int)*j+1) % 2147483563],_,_,_,by rw[a_,e1];rfl,?_,hq,rfl⟩
     ·walk_at "evm";rw[hc,v_pow (i:=10) (j:=64) (by decide),CP];generalize P5=T at hp;walk_at "evm";rw[aW cl];walk_at "evm";rw[P9 (by rw[ag];lia),aQ];rfl
     ·intro x hx;rcases az.mp hx with z|z
      ·exact e2 x z
      ·rw[ak.mp z];exact hq)
  exact⟨_,g1,xs,q,y,z,e1,e2,rfl⟩
 ·rintro U ⟨xs,q,y,z,e1,e2,rfl⟩;walk_at "evm";exact⟨xs,rfl,e1,e2⟩
def a9A{xs:List Int}(h:∀x∈xs,0<=x)(i:Nat):0<=xs.getD i 0:=by
 rw[aB];cases e:xs[i]? with
 |none=>exact Int.le_refl _
 |some y=>exact h y (bz e)
def b3P:a5q (.int 10) (.int 60)=cz (.int big):=by rw[v_pow (i:=10) (j:=60) (by decide)];rfl
local macro_rules | `(tactic| walk_at "evq")=>`(tactic| first | (walk_at "ev";repeat (simp -implicitDefEqProofs (disch:=first | omega | assumption | decide) only [Prog.b3P,VS.a1o,VS.a1p,VS.S9];try walk_at "ev")) | (simp -implicitDefEqProofs (disch:=first | omega | assumption | decide) only [Prog.b3P,VS.a1o,VS.a1p,VS.S9];repeat (first | walk_at "ev" | simp -implicitDefEqProofs (disch:=first | omega | assumption | decide) only [Prog.b3P,VS.a1o,VS.a1p,VS.S9])))
def b1d(q:Int)(xs:List Int)(h:3<=xs.length):∃v:Int,m_law_answer [.int q,.list (xs.map .int)]=cz (.int v):=by
 have GK:=b3k;unfold m_law_answer;rw[Q6 (by simp[VS.argsOk,imm])];unfold b_law_answer;walk_at "evq";generalize decide (xs.getD (1:Int).toNat 0 / 5 % 4=1)=b1;cases b1 with
 |true=>
  walk_at "evq";exact⟨_,rfl⟩
 |false=>
  walk_at "evq";generalize decide (xs.getD (1:Int).toNat 0 / 5 % 4=2)=b2;cases b2 with
  |true=>
   walk_at "evq";exact⟨_,rfl⟩
  |false=>
   walk_at "evq";generalize decide (xs.getD (1:Int).toNat 0 / 5 % 4=3)=b3;cases b3 with
   |true=>
    walk_at "evq";exact⟨_,rfl⟩
   |false=>
    walk_at "evq";exact⟨_,rfl⟩
def b1e(xs:List Int)(n q:Nat)(h:3+n<=xs.length)(q1:1<=q)(qn:q<=n)(zh:n<=30)(hx:∀x∈xs,0<=x) :
  ∃rows:List Int,m_law_copied [.list (xs.map .int),.int n,.int q]=cz (.list (rows.map .int))/\rows.length=n/\(∀r∈rows,0<=r/\r<(q:Int))/\∀c:Int,0<=c->c<q->c∈rows:=by
 unfold m_law_copied;rw[Q6 (by simp[VS.argsOk,imm])];unfold b_law_copied;walk_at "evq";rw[a3Y (n:=n) (by walk_at "evq") (by lia) (by lia),bQ];walk_at "evq"
 let o:Int:=xs.getD (0:Int).toNat 0 / 1000
 refine W7 (R:=λe=>∃rows:List Int,e=cz (.list (rows.map .int))/\rows.length=n/\(∀r∈rows,0<=r/\r<(q:Int))/\∀c:Int,0<=c->c<q->c∈rows) (λU=>∃(rows:List Int) (x:D),rows.length=n/\(∀r∈rows,0<=r/\r<(q:Int))/\(∀i:Nat,i<q->((i:Int)+o) % q∈rows)/\U=[.list (xs.map .int),.int n,.int q,.list (rows.map .int),x]) ?_ ?_
 ·obtain⟨U',h1,rows,x,h2,h3,h4,rfl⟩:=y9 (n:=n) (set:=u8 4) (g:=b8K) (U:=[.list (xs.map .int),.int n,.int q,.list [],.none])
   (λj U=>∃(rows:List Int) (x:D),rows.length=j/\(∀r∈rows,0<=r/\r<(q:Int))/\(∀i:Nat,i<q->i<j->((i:Int)+o) % q∈rows)/\U=[.list (xs.map .int),.int n,.int q,.list (rows.map .int),x])
   ⟨[],_,rfl,λr hr=>(nomatch hr),λi _ hi=>absurd hi (Nat.not_lt_zero _),rfl⟩ (by
    rintro j hj U ⟨rows,x,h2,h3,h4,rfl⟩;have put:∀v:Int,(j<q->v=((j:Int)+o) % q)->0<=v->v<(q:Int)->b8K [.list (xs.map .int),.int n,.int q,.list (rows.map .int),.int j]=cz (.nx [.list (xs.map .int),.int n,.int q,.list ((rows++[v]).map .int),.int j])->
      ∃U1 U2,u8 4 [.list (xs.map .int),.int n,.int q,.list (rows.map .int),x] (.int j)=cz U1/\b8K U1=cz (.nx U2)/\∃(rows:List Int) (x:D),rows.length=j+1/\(∀r∈rows,0<=r/\r<(q:Int))/\(∀i:Nat,i<q->i<j+1->((i:Int)+o) % q∈rows)/\U2=[.list (xs.map .int),.int n,.int q,.list (rows.map .int),x]:=by
     intro v hv v0 v1 hg;refine⟨_,_,rfl,hg,rows++[v],_,by rw[a_,h2];rfl,λr hr=>?_,λi hi iH=>?_,rfl⟩
     ·rcases az.mp hr with z|z
      ·exact h3 r z
      ·rw[ak.mp z];exact⟨v0,v1⟩
     ·rcases eS i j with z|z
      ·exact aO _ (h4 i hi z)
      ·have e:i=j:=by lia
       subst e;rw[<-hv hi];simp
    by_cases c:(j:Int)<q
    ·refine put (((j:Int)+o) % q) (λ_=>rfl) (dU _ (by lia)) (eQ _ (by lia)) ?_;walk_at "evq";rw[aE c];walk_at "evq";rw[P9 (by rw[ag];lia),aQ];rfl
    ·refine put (xs.getD (3+(j:Int)).toNat 0 % q) (λz=>by lia) (dU _ (by lia)) (eQ _ (by lia)) ?_;walk_at "evq";rw[aW c];walk_at "evq";rw[P9 (by rw[ag];lia),aQ];rfl)
  exact⟨_,h1,rows,x,h2,h3,λi hi=>h4 i hi (by lia),rfl⟩
 ·rintro U ⟨rows,x,h2,h3,h4,rfl⟩;have Bh:∀c:Int,0<=c->c<q->c∈rows:=λc c0 c1=>by
   have h:=h4 ((c-o) % q).toNat (by have:=eQ (c-o) (show (0:Int)<q by lia);have:=dU (c-o) (show (q:Int)≠0 by lia);lia);rw[jQ (dU (c-o) (by lia)),Int.emod_add_emod,Int.sub_add_cancel,Int.emod_eq_of_lt c0 c1]at h;exact h
  walk_at "evq";generalize decide (xs.getD (1:Int).toNat 0 / 20 % 2=1)=b;cases b with
  |false=>
   walk_at "evq";exact⟨rows,rfl,h2,h3,Bh⟩
  |true=>
   walk_at "evq";show ∃r,a2V (thn (cz (.nx [.list (xs.map .int),.int n,.int q,.list (rows.map .int).reverse,x])) _)=_/\_;walk_at "evq";refine⟨rows.reverse,by rw[GW],by rw[yL];exact h2,λr hr=>h3 r (lx.mp hr),λc c0 c1=>lx.mpr (Bh c c0 c1)⟩
def a8L(ns:List Int)(sm la Bd:Nat)(s1:1<=sm)(hB:Bd<=7)(s2:sm<=Bd)(l1:1<=la)(l2:la<=Bd):∃(m:m7) (k:Nat),m_law_machine [.list (ns.map .int),.int sm,.int la]=cz (.list (m.map rwD))/\WF m k/\m.length<=Bd:=by
 unfold m_law_machine;rw[Q6 (by simp[VS.argsOk,imm])];unfold b_law_machine;walk_at "evm";obtain⟨fi,xf,Ht,Br⟩:=a7z ns 3 (by lia);have Ag:m_law_cells [.list (ns.map .int),.int 3]=cz (.list (fi.map .int)):=xf;rw[Ag];walk_at "evm";have f0:0<=fi.getD (0:Int).toNat 0:=a9A Br _;have f1:0<=fi.getD (1:Int).toNat 0:=a9A Br _;have q0:=dU (fi.getD (0:Int).toNat 0) (show (sm:Int)≠0 by lia);have q1:=eQ (fi.getD (0:Int).toNat 0) (show (0:Int)<sm by lia);refine W7 (R:=λo=>∃(m:m7) (k:Nat),o=cz (.list (m.map rwD))/\WF m k/\m.length<=Bd) (λU=>∃n:Nat,1<=n/\n<=Bd/\U=[.list (ns.map .int),.int sm,.int la,.list (fi.map .int),.int n,.none,.none,.none,.none,.none,.none,.none,.none,.none,.none,.none]) ?_ ?_
 ·cases decide (fi.getD (0:Int).toNat 0 / (sm:Int) % 8=3) with
  |true=>
   have r0:=dU (fi.getD (0:Int).toNat 0 / (8*(sm:Int))) (show (la:Int)≠0 by lia);have r1:=eQ (fi.getD (0:Int).toNat 0 / (8*(sm:Int))) (show (0:Int)<la by lia);refine⟨_,(by walk_at "evm";exact rfl),(1+fi.getD (0:Int).toNat 0 / (8*(sm:Int)) % la).toNat,by lia,by lia,?_⟩;rw[jQ (by lia)]
  |false=>
   refine⟨_,(by walk_at "evm";exact rfl),(1+fi.getD (0:Int).toNat 0 % (sm:Int)).toNat,by lia,by lia,?_⟩;rw[jQ (by lia)]
 rintro U ⟨n,n1,nB,rfl⟩;have zh:n<=30:=by lia
 walk_at "evm";obtain⟨k,hk,k1,k5⟩:∃k:Nat,1+fi.getD (1:Int).toNat 0 % 5=(k:Int)/\1<=k/\k<=5:=⟨(1+fi.getD (1:Int).toNat 0 % 5).toNat,by lia,by lia,by lia⟩;rw[hk];refine W7 (R:=λo=>∃(m:m7) (k:Nat),o=cz (.list (m.map rwD))/\WF m k/\m.length<=Bd) (λU=>∃q:Nat,1<=q/\q<=n/\U=[.list (ns.map .int),.int sm,.int la,.list (fi.map .int),.int n,.int k,.int q,.none,.none,.none,.none,.none,.none,.none,.none,.none]) ?_ ?_
 ·cases decide (fi.getD (2:Int).toNat 0 % 4=3) with
  |true=>
   have r0:=dU (fi.getD (2:Int).toNat 0 / 4) (show (n:Int)≠0 by lia);have r1:=eQ (fi.getD (2:Int).toNat 0 / 4) (show (0:Int)<n by lia);refine⟨_,(by walk_at "evm";exact rfl),(1+fi.getD (2:Int).toNat 0 / 4 % n).toNat,by lia,by lia,?_⟩;rw[jQ (by lia)]
  |false=>
   exact⟨_,(by walk_at "evm"),n,n1,ay _,rfl⟩
 rintro U ⟨q,DC,qn,rfl⟩;walk_at "evm";have HD:n*k<=30*5:=Nat.mul_le_mul zh k5;obtain⟨xs,uD,DW,DH⟩:=a7z ns (3+n+2*n*k) (by rw[Nat.mul_assoc];lia);have ec:(3+(n:Int)+2*(n:Int)*(k:Int))=((3+n+2*n*k:Nat):Int):=by rw[qH,qH,lS,lS];rfl
 rw[ec,uD];have en:(2:Int)*(n:Int)*(k:Int)=(n:Int)*k+(n:Int)*k:=by rw[Int.mul_assoc,Int.two_mul]
 have Cb:(xs.length:Int)=3+n+((n:Int)*k+(n:Int)*k):=by rw[DW,<-ec,en]
 have EL:0<=(n:Int)*(k:Int):=Int.mul_nonneg (by lia) (by lia);walk_at "evm";obtain⟨rows,wL,Bx,wc,wa⟩:=b1e xs n q (by lia) DC qn zh DH;rw[wL];walk_at "evm";rw[a3Y (n:=n) (by walk_at "evm") (by lia) (by lia),bQ];walk_at "evm";have GK:=b3k;have row:∀s:Nat,s<n->∀(tab:D) (y z u v:D),∃(r:List (Int×Int)) (x' y' z' u':D),r.length=k/\(∀p∈r,0<=p.2/\p.2<(n:Int))/\
   (F8 (iR (b7 5)) (u8 12) b3N) (M0 ns sm la fi n k q xs rows [tab,.int s,.list [],y,z,u,v])=cz (.nx (M0 ns sm la fi n k q xs rows [tab,.int s,rwD r,x',y',z',u'])):=by
  intro s hs tab y z u v;walk_at "evm";rw[a3Y (n:=k) (by walk_at "evm") (by lia) (by lia),bQ];walk_at "evm";obtain⟨U',h1,r,x',y',z',u',h2,h3,rfl⟩:=y9 (n:=k) (set:=u8 12) (g:=b3N)
   (U:=(M0 ns sm la fi n k q xs rows [tab,.int s,.list [],y,z,u,v]))
   (λj U=>∃(r:List (Int×Int)) (x' y' z' u':D),r.length=j/\(∀p∈r,0<=p.2/\p.2<(n:Int))/\U=(M0 ns sm la fi n k q xs rows [tab,.int s,rwD r,x',y',z',u']))
   ⟨[],y,z,u,v,rfl,λp hp=>(nomatch hp),rfl⟩ (by
    rintro j hj U ⟨r,x',y',z',u',hr,hp,rfl⟩;have bound:∀i:Int,0<=i->i<n->0<=i*(k:Int)/\i*(k:Int)+j<(n:Int)*k:=λi i0 i1=>by
     refine⟨Int.mul_nonneg i0 (by lia),?_⟩;have h1:(i.toNat+1)*k<=n*k:=Nat.mul_le_mul_right k (by lia);have h2:i.toNat*k+j<n*k:=by rw[Nat.add_mul,Nat.one_mul]at h1;lia
     have h3:((i.toNat:Nat):Int)=i:=by lia
     have h4:((i.toNat*k+j:Nat):Int)<((n*k:Nat):Int):=by exact_mod_cast h2
     rw[qH,lS,lS,h3]at h4;exact h4
    have BS:0<=rows.getD s 0/\rows.getD s 0<(q:Int):=by
     have hm:rows.getD s 0∈rows:=b0W (by lia);exact wc _ hm
    obtain⟨b0,b1⟩:=bound (rows.getD s 0) BS.1 (by lia);obtain⟨d0,d1⟩:=bound s (by lia) (by lia);have qL:e2 N2 (b7 8) (b7 10) (M0 ns sm la fi n k q xs rows [tab,.int s,rwD r,.int j,y',z',u'])=cz (.int (rows.getD s 0)):=by
     walk_at "evm";rw[bQ]
    generalize Hy:rows.getD s 0=rr at BS b0 b1 qL
    let cell:Int:=xs.getD (3+(n:Int)+rr*k+j).toNat 0
    have nq:e2 N2 (b7 7) (e2 w9 (e2 w9 (e2 w9 (eC (.int 3)) (b7 4)) (e2 N0 (e2 N2 (b7 8) (b7 10)) (b7 5))) (b7 12)) (M0 ns sm la fi n k q xs rows [tab,.int s,rwD r,.int j,y',z',u'])=cz (.int cell):=by
     rw[v_2,v_2,v_2,v_2,v_2,qL];walk_at "evm";rfl
    have ES:=dU cell (show (q:Int)≠0 by lia);have uS:=eQ cell (show (0:Int)<q by lia)
    let room:List Nat:=(aU n).filter λ(t:Nat)=>decide (rows.getD t 0=cell % q)
    have wM:(n8 (iR (b7 4)) [6,8,13] pt1 (tB (e2 dEq (e2 N2 (b7 2) (b7 0)) (e2 F6 (b7 3) (b7 1)))) (b7 0)) (M0 ns sm la fi n k q xs rows [tab,.int s,rwD r,.int j,.int cell,z',u'])=cz (.list (room.map λ(t:Nat)=>aJ t)):=by
     refine b5C (n:=n) (λ(t:Nat)=>decide (rows.getD t 0=cell % q)) (λt=>.int t) (by rw[a3Y (n:=n) (by walk_at "evm") (by lia) (by lia)];rfl) (by lia) (λt ht=>⟨?_,λ_=>rfl⟩);show tB _ [.int t,.int q,.list (rows.map .int),.int cell]=_;walk_at "evm";rw[bQ]
    have hl:0<room.length:=by
     obtain⟨t,ht⟩:=bS.mp (wa (cell % q) ES uS);have BN:=(aN.mp ht).1;have:t∈room:=by
      show t∈(aU n).filter _;rw[bG];refine⟨cw.mpr (by lia),aE ?_⟩;rw[aB,ht];rfl
     exact vw this
    let pick:Int:=xs.getD (3+(n:Int)+(n:Int)*k+(s:Int)*k+j).toNat 0
    have wO:e2 N2 (b7 7) (e2 w9 (e2 w9 (e2 w9 (e2 w9 (eC (.int 3)) (b7 4)) (e2 N0 (b7 4) (b7 5))) (e2 N0 (b7 10) (b7 5))) (b7 12)) (M0 ns sm la fi n k q xs rows [tab,.int s,rwD r,.int j,.int cell,.list (room.map λ(t:Nat)=>aJ t),u'])=cz (.int pick):=by
     walk_at "evm";rfl
    obtain⟨v,hv⟩:=b1d (cell / q) xs (by lia);have g0:=dU pick (show (room.length:Int)≠0 by lia);have g1:=eQ pick (show (0:Int)<room.length by lia);obtain⟨t,Et,wI,zE⟩:∃t:Int,0<=t/\t<(n:Int)/\L2.atI (room.map λ(t:Nat)=>aJ t) (pick % (room.length:Int))=cz (.int t):=by
     rw[a1q g0 (by rw[ag];exact g1),fI];have mF:room[(pick % (room.length:Int)).toNat]'(by lia)∈(aU n).filter λ(t:Nat)=>decide (rows.getD t 0=cell % q):=dt _
     have:=cw.mp (bG.mp mF).1;exact⟨_,by lia,by lia,rfl⟩
    have hb:b3N (M0 ns sm la fi n k q xs rows [tab,.int s,rwD r,.int j,y',z',u'])=cz (.nx (M0 ns sm la fi n k q xs rows [tab,.int s,rwD (r++[(v,t)]),.int j,.int cell,.list (room.map λ(t:Nat)=>aJ t),.int pick])):=by
     unfold b3N;rw[I9,a2W,nq];show thn (cz (.nx (M0 ns sm la fi n k q xs rows [tab,.int s,rwD r,.int j,.int cell,z',u']))) _=_;rw[E7,I9,a2W,wM];show thn (cz (.nx (M0 ns sm la fi n k q xs rows [tab,.int s,rwD r,.int j,.int cell,.list (room.map λ(t:Nat)=>aJ t),u']))) _=_;rw[E7,I9,a2W,wO];show thn (cz (.nx (M0 ns sm la fi n k q xs rows [tab,.int s,rwD r,.int j,.int cell,.list (room.map λ(t:Nat)=>aJ t),.int pick]))) _=_;rw[E7];generalize HM:cell=cc at hv;generalize HA:pick=pp at zE;generalize HC:room=oo at zE hl;walk_at "evm";rw[hv,zE];walk_at "evm";show a9Z 11 (.list (r.map stD)) _ _=_;rw[P9 (by rw[ag];lia)];unfold rwD;rw[aQ];rfl
    refine⟨_,_,rfl,hb,r++[(v,t)],_,_,_,_,by rw[a_,hr];rfl,?_,rfl⟩;intro p EE;rcases az.mp EE with z|z
    ·exact hp p z
    ·rw[ak.mp z];exact⟨Et,wI⟩)
  exact⟨r,x',y',z',u',h2,h3,h1⟩
 refine W7 (R:=λo=>∃(m:m7) (k:Nat),o=cz (.list (m.map rwD))/\WF m k/\m.length<=Bd) (λU=>∃(m:m7) (a b c d e f:D),m.length=n/\(∀r∈m,r.length=k/\∀p∈r,0<=p.2/\p.2<(n:Int))/\U=(M0 ns sm la fi n k q xs rows [.list (m.map rwD),a,b,c,d,e,f])) ?_ ?_
 ·obtain⟨U',h1,m,a,b,c,d,e,f,h2,h3,rfl⟩:=y9 (n:=n) (set:=u8 10) (g:=b8J)
   (U:=(M0 ns sm la fi n k q xs rows [.list [],.none,.none,.none,.none,.none,.none]))
   (λj U=>∃(m:m7) (a b c d e f:D),m.length=j/\(∀r∈m,r.length=k/\∀p∈r,0<=p.2/\p.2<(n:Int))/\U=(M0 ns sm la fi n k q xs rows [.list (m.map rwD),a,b,c,d,e,f]))
   ⟨[],_,_,_,_,_,_,rfl,λp hp=>(nomatch hp),rfl⟩ (by
    rintro j hj U ⟨m,a,b,c,d,e,f,h2,h3,rfl⟩;obtain⟨r,x',y',z',u',r1,r2,r3⟩:=row j hj (.list (m.map rwD)) c d e f;refine⟨_,(M0 ns sm la fi n k q xs rows [.list ((m++[r]).map rwD),.int j,rwD r,x',y',z',u']),rfl,?_,m++[r],_,_,_,_,_,_,by rw[a_,h2];rfl,?_,rfl⟩
    ·show b8J (M0 ns sm la fi n k q xs rows [.list (m.map rwD),.int j,b,c,d,e,f])=_;unfold b8J;rw[I9,a2W];show thn (cz (.nx (M0 ns sm la fi n k q xs rows [.list (m.map rwD),.int j,.list [],c,d,e,f]))) _=_;rw[E7,I9,r3,E7];walk_at "evm";rw[P9 (by rw[ag];lia)];walk_at "evm";rw[aQ];rfl
    ·intro r' zM;rcases az.mp zM with z|z
     ·exact h3 r' z
     ·rw[ak.mp z];exact⟨r1,r2⟩)
  exact⟨_,h1,m,a,b,c,d,e,f,h2,h3,rfl⟩
 ·rintro U ⟨m,a,b,c,d,e,f,h2,h3,rfl⟩;walk_at "evm";exact⟨m,k,rfl,⟨by lia,by lia,k1,k5,λr hr=>(h3 r hr).1,λr hr p hp=>by rw[h2];exact (h3 r hr).2 p hp⟩,by lia⟩
end Prog
namespace VS
open PySem L2
theorem a5a:∀{xs:List α},(∀x∈xs,g (enc x)=cz (f x))->a6B g (xs.map enc)=cz (xs.map f)
 |[],_=>rfl
 |x::xs,h=>by
  show (g (enc x)).bind _=_;rw[h x av];show (a6B g (xs.map enc)).bind _=_;rw[a5a λy hy=>h y (aw _ hy)];rfl
end VS
namespace Prog
open PySem L2 VS
def c0B{L:List (List Int)}{j:Int}(h0:0<=j)(h1:j<L.length):L2.atI (L.map iD) j=cz (iD (L.getD j.toNat [])):=by
 rw[a1q h0 (by rw[ag];exact h1),fI,aB,ai (by lia)];rfl
def a7A{ns:List Int}{j:Int}(a:0<=j)(b:j<ns.length):L2.atI (ns.map aJ) j=cz (.int (ns.getD j.toNat 0)):=by
 rw[a1q a (by rw[ag];exact b),fI];rw[aB,ai (by lia)];rfl
def a5b{α:Type}{l:List α}{x:α}{j:Nat}(h:j<l.length):l.getD j x∈l:=by
 rw[aB,ai h];exact dt _
def a9B{α:Type}{R:α->α->Prop}{l:List α}{x:α}(h:l.Pairwise R){i j:Nat}(iH:i<j)(hj:j<l.length):R (l.getD i x) (l.getD j x):=by
 rw[aB,aB,ai hj,ai (by lia)];exact kE.mp h i j _ _ iH
def b5T(x:Int):m_law_whole [.int x]=cz (.bool rp):=by
 unfold m_law_whole;rw[Q6 (by simp[VS.argsOk])];unfold b_law_whole;walk_at "ev"
abbrev b8L:EvS:=(sIf (a5t (tNo (tV (eCl m_law_whole (b8 (e2 C4 (e2 dIx (b7 0) (b7 2)) (b7 3)) i5)))) (tNo (tB (eCh dLe dLt (eC (.int 0)) (e2 C4 (e2 dIx (b7 0) (b7 2)) (b7 3)) (b7 1))))) (p6 (eC (.bool xn))) x0)
abbrev b3Q:EvS:=(i9 b8L (sIf (tAn (tB (e2 dGt (b7 3) (eC (.int 0)))) (tB (e2 dGe (e2 C4 (e2 dIx (b7 0) (b7 2)) (e2 a1j (b7 3) (eC (.int 1)))) (e2 C4 (e2 dIx (b7 0) (b7 2)) (b7 3))))) (p6 (eC (.bool xn))) x0))
abbrev b8M:EvS:=(sIf (a5t (tNo (tV (e1 (λd=>cz (.bool (isList d))) (e2 dIx (b7 0) (b7 2))))) (tB (e2 dLt (eCl F7 (b8 (e2 dIx (b7 0) (b7 2)) i5)) (eC (.int 2))))) (p6 (eC (.bool xn))) x0)
abbrev b8N:EvS:=(i9 b8M (i9 (F8 (iR (eCl F7 (b8 (e2 dIx (b7 0) (b7 2)) i5))) (u8 3) b3Q) (sIf (tAn (tB (e2 dGt (b7 2) (eC (.int 0)))) (tB (e2 b5r (e2 dIx (b7 0) (e2 a1j (b7 2) (eC (.int 1)))) (e2 dIx (b7 0) (b7 2))))) (p6 (eC (.bool xn))) x0)))
abbrev b3R:EvS:=(sIf (tNo (tV (eCl m_law_shut_by (b8 (b7 1) (b8 (b7 5) (b8 (b7 6) (b8 (b7 7) i5))))))) (p6 (eC (.bool xn))) x0)
def a7B{n:Nat}{L:List (List Int)}(hL:∀S∈L,2<=S.length/\S.length<=30/\Inc S/\∀s∈S,0<=s/\s<(n:Int))(hp:L.Pairwise λa b=>v4 a b=rp)(hl:L.length<=200):m_law_are_sets [.list (L.map iD),.int n]=cz (.bool rp):=by
 unfold m_law_are_sets;rw[Q6 (by simp[VS.argsOk,imm])];unfold b_law_are_sets;walk_at "ev";rw[a3Y (n:=L.length) (by walk_at "ev") (by lia) (by lia),bQ];walk_at "ev";refine U6 (λU=>∃x y,U=[.list (L.map iD),.int n,x,y]) ?_ ?_
 ·obtain⟨U',g1,x,y,rfl⟩:=y9 (n:=L.length) (set:=u8 2) (g:=b8N) (U:=[.list (L.map iD),.int n,.none,.none])
   (λj U=>∃x y,U=[.list (L.map iD),.int n,x,y]) ⟨_,_,rfl⟩ (by
    rintro q hq U ⟨x,y,rfl⟩;obtain⟨S,AB⟩:∃S,S=L.getD q []:=⟨_,rfl⟩;have hS:=hL S (by rw[AB];exact a5b hq);have qL:L2.atI (L.map iD) (q:Int)=cz (iD S):=by rw[c0B (by lia) (by lia),bQ,AB]
    have h1:b8M [.list (L.map iD),.int n,.int q,y]=cz (.nx [.list (L.map iD),.int n,.int q,y]):=by
     unfold b8M;walk_at "ev";rw[qL];walk_at "ev";rw[qL];walk_at "ev";rw[aW (show ¬ (S.length:Int)<2 by lia)];walk_at "ev"
    have h2:∃y',(F8 (iR (eCl F7 (b8 (e2 dIx (b7 0) (b7 2)) i5))) (u8 3) b3Q) [.list (L.map iD),.int n,.int q,y]=cz (.nx [.list (L.map iD),.int n,.int q,y']):=by
     rw[b2c,a3Y (n:=S.length) (by walk_at "ev";rw[qL];walk_at "ev") (by lia) (by lia),bQ];obtain⟨U',g1,y',rfl⟩:=y9 (n:=S.length) (set:=u8 3) (g:=b3Q) (U:=[.list (L.map iD),.int n,.int q,y])
      (λj U=>∃y,U=[.list (L.map iD),.int n,.int q,y]) ⟨_,rfl⟩ (by
       rintro j hj U ⟨y,rfl⟩;have hs:=hS.2.2.2 (S.getD j 0) (a5b hj);have uU:L2.atI (S.map aJ) (j:Int)=cz (.int (S.getD j 0)):=by rw[a7A (by lia) (by lia),bQ]
       refine⟨_,[.list (L.map iD),.int n,.int q,.int j],rfl,?_,_,rfl⟩;show b3Q [.list (L.map iD),.int n,.int q,.int j]=_;have k1:b8L [.list (L.map iD),.int n,.int q,.int j]=cz (.nx [.list (L.map iD),.int n,.int q,.int j]):=by
        unfold b8L;walk_at "ev";rw[qL];walk_at "ev";rw[uU];walk_at "ev";rw[b5T];walk_at "ev";rw[qL];walk_at "ev";rw[uU];walk_at "ev";rw[aE hs.1];walk_at "ev";rw[aE hs.2];walk_at "ev"
       unfold b3Q;rw[I9,k1,E7];by_cases c:(j:Int)>0
       ·have gX:=a9B (x:=(0:Int)) hS.2.2.1 (i:=j-1) (j:=j) (by lia) hj;have E_:L2.atI (S.map aJ) ((j:Int)-1)=cz (.int (S.getD (j-1) 0)):=by rw[a7A (by lia) (by lia),show ((j:Int)-1).toNat=j-1 by lia]
        walk_at "ev";rw[aE c];walk_at "ev";rw[qL];walk_at "ev";rw[uU,E_];walk_at "ev";rw[aW (show ¬ S.getD (j-1) 0≥S.getD j 0 by lia)];walk_at "ev"
       ·walk_at "ev";rw[aW c];walk_at "ev")
     exact⟨_,g1⟩
    obtain⟨y',h2⟩:=h2;refine⟨_,[.list (L.map iD),.int n,.int q,y'],rfl,?_,_,_,rfl⟩;show b8N [.list (L.map iD),.int n,.int q,y]=_;unfold b8N;rw[I9,h1,E7,I9,h2,E7];by_cases c:(q:Int)>0
    ·have gX:=a9B (x:=([]:List Int)) hp (i:=q-1) (j:=q) (by lia) hq;have Cf:L2.atI (L.map iD) ((q:Int)-1)=cz (iD (L.getD (q-1) [])):=by rw[c0B (by lia) (by lia),show ((q:Int)-1).toNat=q-1 by lia]
     have qM:b5r (iD (L.getD (q-1) [])) (iD S)=cz (.bool xn):=by
      show (intsOf _).bind (λx=>(intsOf _).bind λy=>cz (dE !v4 x y))=_;rw[U2,bC,U2,bC,AB,gX];rfl
     walk_at "ev";rw[aE c];walk_at "ev";rw[qL,Cf];walk_at "ev";rw[qM];walk_at "ev"
    ·walk_at "ev";rw[aW c];walk_at "ev")
  exact⟨_,g1,_,_,rfl⟩
 ·rintro U ⟨x,y,rfl⟩;walk_at "ev"
def a6e(L:List (List Int)):(dX (L.map iD)).canLay0=rp:=by simp only[dA];exact Y4 _ (λS=>lay_ints S) L
def a3S(L:List (List Int)):(dX (L.map iD)).depth<=60:=by
 simp only[gk];have:=L9 iD 1 (λS=>a8C S) L;lia
def a9C(L:List (List Int)):dNe (.list (L.map iD)) (.list [])=cz (.bool !decide (L=[])):=by
 show dNe (.list (L.map iD)) (.list (([]:List (List Int)).map iD))=_;rw[b6j (a6e L) (a6e []) (a3S L)]
 congr 3;cases L with
 |nil=>simp[aH,cR]
 |cons S L=>simp[aH,cR]
def a2r(n:Nat):List Int:=(aU n).map λ(j:Nat)=>(j:Int)
def a3T:s∈a2r n↔0<=s/\s<(n:Int):=by
 unfold a2r;rw[bj]
 constructor
 ·rintro⟨j,hj,rfl⟩;have:=cw.mp hj;lia
 ·rintro⟨h0,h1⟩;exact⟨s.toNat,cw.mpr (by lia),by lia⟩
def a3U{m:m7}(h:0<m.length):SetK m (a2r m.length):=by
 refine⟨?_,λe=>?_,λs hs=>a3T.mp hs⟩
 ·show List.Pairwise (· < ·) (List.map _ _);rw[oU];exact List.pairwise_lt_range.imp λh=>by lia
 ·have:(0:Int)∈a2r m.length:=a3T.mpr ⟨by lia,by lia⟩;rw[e]at this;cases this
abbrev L0(ns:List Int)(m:m7)(L:List (List Int))(t:List D):List D:=.list (ns.map .int)::.list (m.map rwD)::.int m.length::.list (m.map rwD)::.list (L.map iD)::t
abbrev LW(ns:List Int)(m:m7)(L:List (List Int))(t:List D):List D:=L0 ns m L (.dict (f6 (λ_=>.bool rp) L)::t)
def law_true(ns:List Int)(_:ns.length<=63):m_law [.list (ns.map .int)]=cz (.bool rp):=by
 obtain⟨m,k,hm,w,h7⟩:=a8L ns 5 7 7 (by lia) (by lia) (by lia) (by lia) (by lia);have yh:m_law_machine [.list (ns.map .int),.int 5,.int 7]=cz (.list (m.map rwD)):=hm;have nI:=w.pos;have Ab:=w.k5;have uc:=a6d m.length (by lia);obtain⟨d,nJ,Ai,hd⟩:=a4i w h7;obtain⟨L,xE⟩:∃L,L=(W5 (sts m.length)).filter λS=>!decide (S∈kdS m k (sts m.length) d):=⟨_,rfl⟩
 have hL:∀S,S∈L↔SetK m S/\tb m k d S=xn:=λS=>by
  rw[xE,bG,(E9 _).mem_iff,L6 h7,fm,gi,D6,L6 h7]
  constructor
  ·rintro⟨q1,q2⟩;refine⟨q1,?_⟩;cases x:tb m k d S with
   |false=>rfl
   |true=>exact absurd ⟨q1,x⟩ q2
  ·rintro⟨q1,q2⟩;exact⟨q1,λq=>by rw[q2]at q;cases q.2⟩
 have Cv:((W5 (sts m.length))).Nodup:=(E9 _).nodup_iff.mpr (b3G h7);have Cz:L.Nodup:=by rw[xE];exact Cv.filter _
 have FX:L.Pairwise λa b=>v4 a b=rp:=by
  rw[xE];refine List.Pairwise.filter _ (((O8 _).and Cv).imp λ{a b} h=>?_);cases x:v4 a b with
  |true=>rfl
  |false=>exact absurd (N9 _ _ x h.1) h.2
 have FY:L.length<=127:=by
  rw[xE];refine cU (dO _ _) ?_;rw[(E9 _).length_eq];exact uc
 have tR:∀S∈L,S.length≠1:=λS q z=>by
  have:=a4W (show tb m k 0 S=rp from aE z) (cj d);rw[((hL S).mp q).2]at this;cases this
 have vJ:∀S∈L,2<=S.length/\S.length<=30/\Inc S/\∀s∈S,0<=s/\s<(m.length:Int):=λS hS=>by
  have h1:=((hL S).mp hS).1;have h2:=SetK.le5 w h7 h1;have h3:0<S.length:=List.length_pos_iff.mpr h1.2.1;have h4:=tR S hS;exact⟨by lia,by lia,h1.1,h1.2.2⟩
 have rS:Y7 [.list (m.map rwD)]=cz (.list (L.map iD)):=by rw[xE];exact b3J h7 nJ
 have tU:decide (a2r m.length∈L)=!decide (L=[]):=by
  rw[dJ,bW,fm,gi]
  constructor
  ·intro q z;rw[z]at q;cases q
  ·intro q;obtain⟨S,hS⟩:=kH _ q;have h1:=(hL S).mp hS;refine (hL _).mpr ⟨a3U nI,?_⟩;cases x:tb m k d (a2r m.length) with
   |false=>rfl
   |true=>
    have:=a8I w d (a3U nI) h1.1 (λs hs=>a3T.mpr (h1.1.2.2 s hs)) x;rw[h1.2]at this;cases this
 have wZ:decide (a2r m.length∈kdS m k (sts m.length) d)=tb m k d (a2r m.length):=by
  rw[dJ,bW,D6];exact⟨λq=>q.2,λq=>⟨(L6 h7).mpr (a3U nI),q⟩⟩
 have FL:decide (a2r m.length∈L)=!tb m k d (a2r m.length):=by
  rw[dJ,bW,hL,fm];exact⟨λq=>q.2,λq=>⟨a3U nI,q⟩⟩
 obtain⟨t,wI,ye⟩:=a7x w h7 hd nJ hd (a3U nI);rw[wZ,<-FL,tU]at ye;have Es:a3D [.list (m.map rwD)]=cz t:=by rw[b5Q h7];exact wI
 have wK:∀S∈L,∀a,a<k->m_law_shut_by [.list (m.map rwD),.dict (f6 (λ_=>.bool rp) L),g7 S,.int a]=cz (.bool rp):=λS hS a ha=>by
  have hK:=((hL S).mp hS).1;have ot:=SetK.le5 w h7 hK;rw[a3R w ha hK (by lia)];cases x:(C7 m a S&&S.all λs=>!decide (prt m a S (stp m s a).1∈L)) with
  |false=>rfl
  |true=>
   rw[ar]at x;have:tb m k d S=rp:=b5J Ai ((L6 h7).mpr hK) ha (by
    unfold tst;rw[ar];refine⟨x.1,bD.mpr λs hs=>?_⟩;have c3:=bD.mp x.2 s hs;rw[fm,gi,hL]at c3;cases y:tb m k d (prt m a S (stp m s a).1) with
    |true=>rfl
    |false=>exact absurd ⟨SetK.prt w hK ha hs,y⟩ c3)
   rw[((hL S).mp hS).2]at this;cases this
 unfold m_law;rw[Q6 (by simp[VS.argsOk])];unfold b_law;walk_at "ev";rw[yh];walk_at "ev";rw[b8y (m:=m) (by walk_at "ev") (by have:=w.le;lia)];walk_at "ev";rw[rS];walk_at "ev";rw[neM];walk_at "ev";rw[a7B vJ FX (by lia)];walk_at "ev";refine U6 (λU=>∃x,U=(LW ns m L [x,.none,.none])) ?_ ?_
 ·obtain⟨U',g1,x,rfl⟩:=R9 (enc:=iD) (set:=u8 6) (xs:=L) (g:=(z7 5 rp (H9 (b7 6)) (eC (.bool rp)))) (U:=(L0 ns m L [.dict [],.none,.none,.none]))
   (λpre U=>∃x,U=(L0 ns m L [.dict (f6 (λ_=>.bool rp) pre),x,.none,.none])) ⟨_,rfl⟩ (by
    rintro pre S post e U ⟨x,rfl⟩;have mE:S∉pre:=by
     rw[e]at Cz;have:=bh.mp Cz;exact λz=>this.2.2 S z S av rfl
    have gh:pre.length<=127:=by rw[e,a_]at FY;lia
    refine⟨_,(L0 ns m L [.dict (f6 (λ_=>.bool rp) (pre++[S])),iD S,.none,.none]),rfl,?_,_,rfl⟩;show z7 5 rp (H9 (b7 6)) (eC (.bool rp)) (L0 ns m L [.dict (f6 (λ_=>.bool rp) pre),iD S,.none,.none])=_;rw[a2E (g:=λ_=>.bool rp) (a:=S) (l:=pre) rfl (by rw[a3z];exact W8) rfl (by lia)];unfold a5Y;rw[aI mE];rfl)
  exact⟨_,g1,x,rfl⟩
 rintro U ⟨x,rfl⟩;walk_at "ev";have uT:D8 (L.map g7)=xn:=by
  cases hq:L with
  |nil=>rfl
  |cons S r=>
   have h2:=(vJ S (by rw[hq];exact av)).1
   match S,h2 with
   |a::b::c,_=>
    rw[aA];unfold D8
    split
    ·rename_i h
     simp[g7]at h
    ·rfl
 rw[a3y (ds:=L.map g7) (b8A (g:=λ_=>.bool rp) (l:=L) (by walk_at "ev") uT) (o8 _ A0 _)];walk_at "ev";refine U6 (λU=>∃x y,U=(LW ns m L [x,y,.none])) ?_ ?_
 ·obtain⟨U',g1,x,y,rfl⟩:=R9 (enc:=g7) (set:=u8 6) (xs:=L) (g:=(F8 (iR (eCl F7 (b8 (e2 dIx (b7 1) (eC (.int 0))) i5))) (u8 7) b3R)) (U:=(LW ns m L [x,.none,.none]))
   (λpre U=>∃x y,U=(LW ns m L [x,y,.none])) ⟨_,_,rfl⟩ (by
    rintro pre S post e U ⟨x,y,rfl⟩;have hS:S∈L:=by rw[e];simp
    have hf:∃y',(F8 (iR (eCl F7 (b8 (e2 dIx (b7 1) (eC (.int 0))) i5))) (u8 7) b3R) (LW ns m L [g7 S,y,.none])=cz (.nx (LW ns m L [g7 S,y',.none])):=by
     rw[b2c,a3Y (n:=k) (by walk_at "ev";rw[b5x (by lia) (by lia)];walk_at "ev";rw[w.row (by lia) (by lia)]) (by lia) (by lia),bQ];obtain⟨U',g1,y',rfl⟩:=y9 (n:=k) (set:=u8 7) (g:=b3R) (U:=(LW ns m L [g7 S,y,.none]))
      (λj U=>∃y,U=(LW ns m L [g7 S,y,.none])) ⟨_,rfl⟩ (by
       rintro a ha U ⟨y,rfl⟩;refine⟨_,(LW ns m L [g7 S,.int a,.none]),rfl,?_,_,rfl⟩;show b3R (LW ns m L [g7 S,.int a,.none])=_;unfold b3R;walk_at "ev";rw[wK S hS a ha];walk_at "ev")
     exact⟨_,g1⟩
    obtain⟨y',hf⟩:=hf;exact⟨_,_,rfl,hf,_,_,rfl⟩)
  exact⟨_,g1,_,_,rfl⟩
 rintro U ⟨x,y,rfl⟩;have Er:b3c (b7 2) (LW ns m L [x,y,.none])=cz (g7 (a2r m.length)):=by
  show (if -(2^62)<=(m.length:Int)/\(m.length:Int)<=1000000 then cz (jA (B8 0 (m.length:Int).toNat)) else p4)=_;rw[aC ⟨by lia,by lia⟩,bQ,Y6];unfold g7 a2r;rw[bN];rfl
 walk_at "ev";rw[Er];walk_at "ev";rw[a7p,a9C,tU];walk_at "ev";rw[b6n,show ((xn != !decide (L=[])) != !decide (L=[]))=xn by cases decide (L=[])<;>rfl];walk_at "ev";rw[Es];walk_at "ev";rw[a9C,ye];walk_at "ev";rw[b6n,show ((xn != !decide (L=[])) != !decide (L=[]))=xn by cases decide (L=[])<;>rfl];walk_at "ev";have Fz:n8 (iL (b7 4)) [] pt1 tT (eI (W1 (b7 0))) (LW ns m L [x,y,.none])=cz (.list (L.map iD)):=by
  rw[a0Y (enc:=iD) (xs:=L) iD (by walk_at "ev") (by lia) λS _=>⟨_,rfl,?_⟩];show eI (W1 (b7 0)) [iD S]=_;rw[a4L,a2B];exact a5T
 rw[Fz];walk_at "ev";have Ap:b4S 4 (b7V (b2s (b7 2))) (LW ns m L [x,y,.list (L.map iD)])=cz (.nx [.list (ns.map .int),.list (m.map rwD),.int m.length,.list (m.map rwD),.list ((L.map λS=>S++[(m.length:Int)]).map iD),.dict (f6 (λ_=>.bool rp) L),x,y,.list (L.map iD)]):=by
  unfold b4S;show ((a6B (b2s (b7 2) (LW ns m L [x,y,.list (L.map iD)])) (L.map iD)).bind λes=>cz (dX es)).bind _=_;rw[a5a (f:=λS=>iD (S++[(m.length:Int)])) λS hS=>?_]
  ·rw[bC,bC,bN];rfl
  ·have:=(vJ S hS).2.1;show (if (S.map aJ).length<1000000 then _ else p4)=_;rw[aC (by rw[ag];lia)];unfold iD;rw[aQ];rfl
 rw[Ap];walk_at "ev";have nT:n8 (iL (b7 8)) [2] pt1 tT (eI (a5B (b7 0) (P7 (b8 (b7 1) i5)))) [.list (ns.map .int),.list (m.map rwD),.int m.length,.list (m.map rwD),.list ((L.map λS=>S++[(m.length:Int)]).map iD),.dict (f6 (λ_=>.bool rp) L),x,y,.list (L.map iD)]=cz (.list ((L.map λS=>S++[(m.length:Int)]).map iD)):=by
  rw[a0Y (enc:=iD) (xs:=L) (λS=>iD (S++[(m.length:Int)])) (by walk_at "ev") (by lia) λS hS=>⟨_,rfl,?_⟩]
  ·rw[bN];rfl
  ·have:=(vJ S hS).2.1;show eI (a5B (b7 0) (P7 (b8 (b7 1) i5))) [iD S,.int m.length]=_;rw[a4L,b6m];walk_at "ev";rw[show (dX [.int m.length])=iD [(m.length:Int)] from rfl,b3j (by simp;lia)];exact a5T
 rw[nT];walk_at "ev";rw[b6l (a6e _) (a3S _)];walk_at "ev";rw[P9 (by rw[ag,ag];lia)];walk_at "ev";rw[rS];walk_at "ev";rw[b6k (a6e _) (a3S _)];walk_at "ev";rw[b6k (a7o m) (a3A m)];rfl
def b8O{l:qD}{w:bX}{K:ae}{mg:bI->Option aj}{fa:au}(Ah:mg "law"=cz (.ref fa))(b:Bn K mg)(mV:(C5 K "least_asks").isSome=rp)
  : ∃fd:dR,(∀(s:aq) (v:aj),o_ s fd ⟨[v],[]⟩ [("_law_script",v)])/\∀base:cf,K.In base->base.Ns bV mg->FnOk l.prog w K mg base CX0 126 fa fd ["_law_script"] (spD K 1 m_law .i):=b8m Ah b.d22 λbase KB GB fd F=>by
 have B:Bk l.prog w K mg base:=⟨b⟩;have jq:=ok_law_cell_at B;have jh:=ok_law_cells B jq.u;have jG:=ok_law_copied B;have jH:=ok_law_answer B;have jo:=ok_law_machine B jh.u jG.u jH.u;have eF:=a0p B;have iN:=a8E B;have l_:=a1E B;have gz:=a0U B;have gP:=a0q B gz.u;have lE:=a8F B;have gI:=a5W B;have jm:=a3B B lE.u gI.u;have gy:=a4g B iN.u gP.u jm.u l_.u mV KB GB;have mw:=b3n B eF.u iN.u gy.u;have kj:=ok_law_whole B;have iV:=ok_law_are_sets B kj.u;have jn:=ok_law_shut_by B;have lh:=b3o B gI.u 121;have jl:=a3C B gy.u lh.u;have jI:=a4h B;have pJ:=b5B B eF.u jl.u jI.u;exact ok_law B jo.u mw.u iV.u jn.u pJ.u F
end Prog
namespace PySem.W.Fast
def tw10587844925800033382:=0
def tw17188252577570565909:=0
def tw14766892382284315832:=0
def tw5218385724347458095:=0
def tw9633509794067252949:=0
def tw10193946300590258603:=0
def tw17385540257377223664:=0
def tw1342779736350895254:=0
def tw10666533617020240334:=0
def tw12994870630845554343:=0
def tw18214519419878664209:=0
def tw12298332591244626046:=0
def tw6529978097545014556:=0
def tw16350455577756730091:=0
def tw13909851234559340150:=0
def tw7158638871171682617:=0
def tw3980713594443103841:=0
def tw1497383525559360092:=0
def tw3717779322506121202:=0
def tw5439323403873622156:=0
def tw8539285919931954739:=0
def tw3072592547167056044:=0
def tw2282499009138213177:=0
def tw4449675699900859947:=0
def tw6748760283222434261:=0
def tw9656968324120161404:=0
def tw16456585428070014308:=0
def tw10619677307604496349:=0
def tw7217968554136564169:=0
def tw5969763029954951942:=0
def tw10784372957172054707:=0
def tw14894823141954175970:=0
def tw5219389885001186485:=0
def tw16874944821380705408:=0
def tw11459281720583115080:=0
def tw1548090468485897769:=0
def tw6026685054480903985:=0
def tw705801870698114439:=0
def tw9739068498660103843:=0
def tw7399502957981656606:=0
def tw8542223177228025125:=0
def tw15421611770205978254:=0
def tw5646122930113334557:=0
def tw6084931773809173569:=0
def tw13665493169694264326:=0
def tw12966528028138485288:=0
def tw17174642669605399249:=0
def tw11504048935230696861:=0
def tw2388586822388759050:=0
def tw3878373786637383527:=0
def tw13550031048160577916:=0
def tw5937322427413571418:=0
def tw6888859136529959319:=0
def tw7037517380709668516:=0
def tw5372575647906427904:=0
def tw15301777149833501636:=0
def tw13292230126626201927:=0
def tw16564840882412041285:=0
def tw17651670901664395447:=0
def tw12961968379873581741:=0
def tw9235599801627029601:=0
def tw11849593314785062181:=0
def tw4804697027107059008:=0
def tw17413309028794706685:=0
def tw14849368151165423609:=0
def tw9304737193853915215:=0
def tw11147003005616308117:=0
def tw7789004629285744427:=0
def tw14588793251835331372:=0
def tw11599421696412980799:=0
def tw1430072833309435933:=0
def tw7888042876055760298:=0
def tw10258516259931988702:=0
def tw17149238138264861059:=0
def tw16277309755959137791:=0
def tw9781444598877195587:=0
def tw8731077312471224424:=0
def tw10492233797414238292:=0
def tw4863561460159864654:=0
def tw6184119328914507499:=0
def tw12136521708850202971:=0
def tw7787692660030978382:=0
def tw10352101674103643322:=0
def tw10462262540350550062:=0
def tw9757257148507471574:=0
def tw13899987579835911897:=0
def tw12928906408679582721:=0
def tw1921455264222278846:=0
def tw12479578092130864417:=0
def tw2491989229386818355:=0
def tw1051446884697939972:=0
def tw4288592482024137128:=0
def tw2161070364286451803:=0
def tw11007344152539493206:=0
def tw2760905124095454931:=0
def tw17177031713514876736:=0
def tw15632583109724422281:=0
def tw17911339968485675483:=0
def tw17231581900620816424:=0
end PySem.W.Fast
end
open PySem PySem.W PyProof.Rows
set_option maxRecDepth 100000 in
set_option maxHeartbeats 0 in
theorem PySem.Challenge.cw_probewell_k45_stuck_is_shut_holds : PySem.Challenge.rw_probewell_k45_stuck_is_shut.Holds := by
 w_on;o_law;k_head;(case hw=>w_witness2)
 k_fill
 refine VS.a9Y (k:=126) (x:="_law_script") (m:=Prog.m_law) (l:=PySem.Challenge.rw_probewell_k45_stuck_is_shut) rfl rfl ⟨rfl,by decide,by decide⟩ (fun w h DA=>by first|exact PySem.W.kIn_of DA|exact PySem.W.km_in_of DA) (fun w=>by kernel_rfl) ?F Prog.law_true
 case F=>
  intro w mg fa h KX G hmg
  refine' Prog.b8O hmg ?b ?_
  case b=>
   constructor
   iterate 23 (refine' VS.b9Y KX G ?a ?l ?c ?k;(case a=>k_is);(case l=>k_is);(case c=>k_is);(case k=>k_is))
   iterate 12 (refine' PySem.W.mg_none_of KX G ?_;k_is)
   iterate 1 (refine' VS.c1r KX G ?a;(case a=>k_is))
  kernel_rfl
