import PyProof.Rows.All
import Wide.All
import OpenK.AllK
import PySem.Challenge.RW_probewell_k54_probes_of_a_book
set_option Elab.async false
set_option linter.all false
set_option maxRecDepth 100000
set_option compiler.extract_closed false
set_option bootstrap.genMatcherCode false
noncomputable section
open Option renaming some->cz,none->p4
open Bool renaming true->rp,false->xn
open List renaming getElem?_eq_getElem->ab,length_map->af,getD_eq_getElem?_getD->ah,mem_append_right->aj,mem_append_left->ak,mem_singleton->aq,mem_cons_of_mem->ar,length_append->av,range->aw,mem_append->ay,map_cons->aB,getElem?_eq_some_iff->aD,mem_map->aG,append_assoc->aH,replicate->aI,mem_cons_self->aK,mem_cons->aN,getElem?_map->aQ,length_cons->aS,map_append->aT,append_nil->aX,size_toArray->bj,mem_of_getElem?->bo,mem_range->bu,length_range->bB,map_map->bC,nodup_nil->bE,getElem?_append_right->bI,cons_append->bP,getElem?_set_ne->bS,nil_append->bT,nodup_append->bV,map_congr_left->bW,flatMap_append->bX,length_singleton->bZ,idxOf_lt_length_iff->b_,map_singleton->cm,mem_flatMap->cx,nodup_cons->cF,getElem?_append_left->cG,count_append->cU,mem_iff_getElem?->cW,map_nil->cX,mem_map_of_mem->cY,getElem_mem->dh,flatMap_cons->dr,pairwise_append->du,drop_eq_getElem_cons->dw,getElem_map->dE,pairwise_singleton->dI,zip_cons_cons->dJ,mem_filterMap->dM,length_take->dO,all_eq_true->dP,length->dQ,getElem_idxOf->dY,getElem?_set_self->eu,mem_iff_getElem->eN,length_nil->eS,getElem?_range->eY,getD_cons_succ->eZ,take_append_drop->fF,length_replicate->fG,foldl_append->fP,any_eq_false->fQ,toList_toArray->fW,lookup_cons->f_,pairwise_cons->gg,flatMap_singleton->gh,getElem?_eq_none->gA,reverse_cons->gF,replicate_succ'->gN,getElem?_of_mem->gO,length_drop->gU,flatMap_nil->gW,getElem?_zip_eq_some->gY,replicate_zero->hJ,range_succ->ic,set_cons_succ->ij,pairwise_map->iB,getElem?_inj->iC,ext_getElem?->iE,ext_getElem->iX,drop_length->iY,nodup_iff_count->jo,of_mem_zip->jA,mem_filter->jB,count_cons->jC,replicate_succ->jG,filterMap_cons->jH,perm_append_singleton->ke,find?_eq_none->kg,count_pos_iff->kh,pairwise_iff_getElem->ku,extract_eq_take_drop->kz,idxOf_append->kG,sublist_append_left->kQ,getElem?_take_of_lt->kR,pairwise_lt_range->lQ,find?_cons->ma,getD_cons_zero->mZ,map_take->nu,zip_nil_right->nM,set_cons_zero->nN,getElem_range->nO,zip_nil_left->oI,getElem_drop->oJ,not_mem_nil->pE,nodup_range->pF,any_eq_true->pG,drop_append_of_le_length->pZ,take_range->qH,length_zip->qI,length_set->qJ,forIn_cons->qK,foldl_cons->qL,perm_ext_iff_of_nodup->rR,forIn_nil->rS,foldl->rT,sublist_append_right->se,mem_of_find?_eq_some->sf,tail->tQ,length_eq_zero_iff->tR,getElem?_replicate->tS,take_of_length_le->uT,range_succ_eq_map->uU,map_id'->uV,drop_of_length_le->uW,set_append_right->vO,pairwise_reverse->vP,getElem?_toArray->vQ,contains_iff_mem->vR,reverse_reverse->xQ,count_cons_self->xR,reverse_append->yG,map_eq_nil_iff->yH,count_eq_zero->AJ,getElem_take->Ci,take_length->FQ,perm_middle->FR,map_flatMap->FT,countP_cons->FU,find?_some->G_,countP_map->Ha
open PySem renaming wpAny_bind->ae,Value->ai,Shared->ao,starEach->au,wpAny_pure->aA,Addr->aC,wpAny->aW,model->a_,sizeLine->br,PyData->bw,Program->bA,Str->bM,Around->bN,World->bQ,mainGlobals->bU,mem_of_lookup->cB,backTo->cD,eval->cI,wpAny_holding->cK,Heap->cM,compareOp->cR,sizeLine_eq->dB,keywordEach->dC,cLine->dF,FuncData->dU,wpAny_mono->dW,attributeBase->dZ,wpAny_call_entry->et,Keyword->eL,backToKw->eV,wpAny_truthy_bool->fw,swapsWith->fx,foldedSetIterable->fy,sysModules->fA,intKind->fH,Pos->fV,codeAny_mono->fX,Obj->gc,wpAny_callSpecial?_slot->gk,binaryOp->gn,Paired->gr,wpAny_typeNameOfWhole_keyiter->gC,wpAny_Call_Name_kw->gG,wpAny_passesOwn->gJ,Scope->gL,wpAny_dictEntries->gX,bootBuiltins->ie,wpAny_typeNameOf_keyiter->ir,behindInMarks->ix,wpAny_specialOf->iJ,codeAny_builtin->iM,Stmt->iO,DictEntry->iS,wpAny_setState_of->jc,wpAny_newObj_type->jd,SetTable->jh,ReadsAll->ji,NameKind->jn,wpAny_forIn_list->jI,rawInt->jK,sliceBounds->jQ,codeAny->kJ,TriplesOk->kW,wpAny_rule->kX,builtinsNs->lh,assignEach->ll,holding->lW,wpAny_standAt->mh,codeAmong->mK,relabel->mQ,assign->mU,wpAny_execs_nil->nh,letOwnedTupleGo->ni,wpAny_notOrdered_dict->nz,callerA->oP,PassesOwn->oQ,BindsTo->oR,Arguments->oS,Env->pH,wpAny_attempt->pJ,setSearchFrom->pK,numAt->pM,wpAny_call->qd,pyNext->qf,closureFor->qD,getItem->rE,bindArgs->rH,boot_len->rM,unsupported->sV,subscripted->sW,hashByValue->tG,wpAny_dictEpoch->tX,wpAny_seqItems->vT,dictSetDefault->xF,Result->xM,GenState->xT,wpAny_comprehension_free->yK,plainId_quiet->yR,Sem->AE,call->AG,bindL->Ca,bindC->Cb,wpAny_Call_method_late->Co,standAt->Cz,setItem->CA,pyIter->CI,isTrue->CZ,dictGet->FC,Fin->FL,wpAny_isOneOf_keyiter->FZ,wpAny_eqIsQuiet_tuple->F_
open PySem.W renaming Frag->ag,kia_one->df,kla_obj->eR,kitOne->fY,keepIn->fZ,fnOf->gf,CodeHd->gM,nsIn->gS,envX->jL,findIn->j_,mg_of->kM,codeIn->mL,kas_item->mR,methodObj->oA,kitx_list->oB,kitx_dict->oD,instObj->qE,OpenLaw->qF,lookIn->rN,cellsFrom_some->uQ,kitx_tuple->AH,callWith_K->AI,specialIn->Ce,plainGet->FK
open Nat renaming le_refl->az,lt_of_lt_of_le->bx,lt_or_ge->bK,zero_le->bL,ne_of_lt->bO,le_trans->cC,lt_irrefl->dS,le_of_lt->eJ,sub_self->fO,add_assoc->gx,lt_trans->gT,zero_add->iz,ne_of_gt->iA,add_comm->jM,lt_of_le_of_lt->kc,lt_succ_of_lt->kF,min_le_left->lZ,min_eq_left->l_,pow_le_pow_right->mN,lt_trichotomy->oG,le_succ_of_le->oH,lt_succ_self->pD,mul_le_mul->rQ,min_self->uR,add_zero->uS,le_succ->xO,add_mul->xP,le_add_right->FO,strongRecOn->GZ
open Option.some renaming inj->aF,injEq->oE
open Array renaming length_toList->aJ,getElem?_toList->bh,getElem?_eq_getElem->bF,getElem_toList->bY,toList_push->cw,getElem_extract->dR,getD_eq_getD_getElem?->fq,perm_iff_toList_perm->fE,mem_toList_iff->fS,getElem?_eq_none->gi,forIn_toList->gj,toList_extract->gP,ext'->il,append_empty->ip,getD->iZ,append_assoc->ki,size_setIfInBounds->kT,getElem_mem_toList->kU,replicate->mf,toList_reverse->mO,toList_append->ng,size_extract->nQ,push_eq_append_singleton->pI,getInternal_eq_getElem->qM,size_map->rW,getElem?_eq_some_iff->rX,toArray_toList->xV,toList_map->FY
open Bool renaming and_eq_true->aL,false_eq_true->be,false_ne_true->cu,not_true->er,and_self->eK,eq_false_iff->fR,and_true->gy,beq_eq_decide_eq->gB,or_eq_true->me,true_and->nv,not_false->rV
open PySem.Heap renaming get?_push_of_some->aO,lt_size->aY,get?_push_size->bz,get?_update_self->eO,SameBut->jq,size_push->ly,get?_update_other->m_
open PySem.PyData renaming int->aP,eqv->aR,canLayAll0->bp,eqvAll->cy,list->cA,bool->cL,depthAll->c_,tuple->dt,canLay0->eX,depth->fI,none->iQ
open PyProof.Rows renaming wpS_bind->aU,arrOf->ba,wpS_pure->bg,Keyed->bR,pendingOf->cE,SortSt->dq,wpS_forRange->dH,SortKind->fg,wpS_mono->fT,failedOf->fU,callWith_type1->gE,seqObj->iK,IntsAre->jk,envOfC->jD,wpS_modify->mP,wpS_get->ny,mirror->nR,AllBare->p_,wpS->tW,listUpdate_at->ue
open PySem.Value renaming ref->bt,none->bD,int->gq,isInt->jY,type->lr,bool->mW,isInt_shape->rJ,str->sM
open Int renaming toNat_natCast->bH,emod_lt_of_pos->eG,toNat_of_nonneg->e_,emod_nonneg->fK,le_refl->xS
open PySem.PassesOwn renaming never->bJ
open PySem.Str renaming ofString->cJ
open False renaming elim->cO
open PyProof.Rows.KeyOrd renaming kle_of_klt->cS,kle_trans->dg,kle_refl->eA,klt_of_klt_of_kle->fC
open PySem.SetTable renaming insertAt->de,bits->eQ,turns->eW,grown->jg,runEnd->kr,sizeAbove->lu,below->lx,layClean->rK,toList_insertAt->AD,has->FI
open Classical renaming byContradiction->dA
open PySem.Obj renaming mapSeq->dD,isFreed_of_dict->kE,putSet->mY,data_mapDictKeys->oF,data_mapDict->sR
open Option renaming map_eq_some_iff->dN,bind_some->eF,isSome_iff_exists->kP,map_some->qG,map->rO,isNone_iff_eq_none->sd,getD_none->FN
open PySem.Heap.SameBut renaming update->dX
open Or renaming inl->eD,inr->mM
open PySem.Builtin.Tuple renaming tupleHashOf->eM
open PySem.F renaming plainAttrs_list->eP,slot_dict_keyiterator_next->fB,called_set->ik,slot_tuple_hash->jt,type_list_append->kN,slot_list_append->kO,type_list_extend->sO,slot_list_extend->sP,slot_dict_values->sQ,args_dict_keyiterator_next_1->sU,slot_list_count->tN,plain_list_iadd->tO,plainAttrs_dict->tP,entry_dict_keyiterator_next->tU,type_dict_get->vM,slot_dict_get->vN
open Ne renaming symm->fm
open PySem.NameKind renaming free->fJ
open ForInStep renaming yield->fL
open List.cons renaming injEq->gu,inj->sT
open PySem.SetTable.layClean renaming free->gI
open PySem.Paired renaming length->gQ
open PyProof.Rows.F renaming plain_set_update_loop->g_,entry_set_update_loop->mX
open PySem.Around renaming under_plainId->h_
open List.Sublist renaming refl->iF,append->yI
open List.Perm renaming refl->iG,append_left->mj
open List.Pairwise renaming nil->iH
open PySem.SetTable.probe renaming go->jf
open True renaming intro->jZ
open PySem.Builtin.List renaming listTooLong->ml
open PySem.Calls renaming callWith_builtin->nc,evalArgs_plain->oK,Name_function_global->xU
open Sum renaming inr->oy,inl->oz
open PySem.SeqAt.ReadsAll renaming length->pY
open PySem.SetTable.below renaming go->rL
open PySem.SeqAt renaming eqAt_reads->sN
open PySem.Builtin.Dict_items renaming ownsTuple->uX
open Prod renaming ext->xN
open PySem.Builtin.Dict renaming showsAll->Hb
open Array.Perm renaming refl->Hd
def aE:=@if_pos
def aM:=@if_neg
def aV:=@decide_eq_true
def aZ:=@decide_eq_false
def bG:=@of_decide_eq_true
def cH:=@if_false
def dG:=@congrArg
def jF:=@beq_eq_false_iff_ne
def jR:=@of_decide_eq_false
def kC:=@decide_eq_true_eq
def pB:=@beq_self_eq_true
def qO:=@if_true
def ZZ(h:True:=by first|exact .inl rfl|exact .inr rfl|assumption):True:=h
def ZY(h:True:=by first|exact⟨.inl rfl,by decide,by decide⟩|exact⟨.inr (.inl rfl),by decide,by decide⟩|exact⟨.inr (.inr rfl),by decide,by decide⟩):True:=h
def ZX(h:True:=by first|exact eD rfl|exact mM rfl):True:=h
def ZW(h:True:=by first|exact .inl rfl|exact .inr rfl):True:=h
open PySem
namespace L2
open PySem.Spec PyProof.Rows
abbrev Key:=Sum Int bM
def b7T:Key->ai->Bool
  |.inl k,v=>jY k v
  |.inr x,v=>ai.isStrOf x v
def c2S(w:bQ):Key->Int
  |.inl k=>hashInt k
  |.inr x=>hashStr w x
def t7:∀{k:Key} {v:ai},b7T k v=rp->(∃i t,k=oz i/\v=gq i t)\/(∃x t,k=oy x/\v=sM x t)
  |.inl i,v,h=>by
    obtain⟨t,e⟩:=rJ (k:=i) (v:=v) h;exact .inl ⟨i,t,rfl,e⟩
  |.inr x,v,h=>by
    obtain⟨t,e⟩:=ai.isStrOf_shape (x:=x) (v:=v) h;exact .inr ⟨x,t,rfl,e⟩
def b8m(a b:Int):decide ((oz a:Key)=oz b)=(a==b):=by
  by_cases e:a=b
  . subst e;simp
  . have h:¬ (oz a:Key)=oz b:=λq=>e (oz.inj q)
    rw[aZ h];exact (jF.mpr e).symm
def b8n(a b:bM):decide ((oy a:Key)=oy b)=decide (a=b):=by
  by_cases e:a=b
  . subst e;simp
  . have h:¬ (oy a:Key)=oy b:=λq=>e (oy.inj q)
    rw[aZ h,aZ e]
def b8o(a:Int)(b:bM):decide ((oz a:Key)=oy b)=xn:=aZ (λq=>nomatch q)
def b8p(a:bM)(b:Int):decide ((oy a:Key)=oz b)=xn:=aZ (λq=>nomatch q)
def a4Z(prog:bA)(w:bQ):PySem.KeyKind prog w Key where
  is:=b7T
  hash:=c2S w
  inj:=λv a b ha hb=>by
    rcases t7 ha with⟨i,t,rfl,rfl⟩|⟨x,t,rfl,rfl⟩
    . rcases t7 hb with⟨j,u,rfl,e⟩|⟨y,u,rfl,e⟩
      . injection e with e1 _;rw[e1]
      . exact nomatch e
    . rcases t7 hb with⟨j,u,rfl,e⟩|⟨y,u,rfl,e⟩
      . exact nomatch e
      . injection e with e1 _;rw[e1]
  byValue:=λk v h=>by
    rcases t7 h with⟨i,t,rfl,rfl⟩|⟨x,t,rfl,rfl⟩<;>rfl
  pyHash:=λhv h=>by
    rcases t7 hv with⟨i,t,rfl,rfl⟩|⟨x,t,rfl,rfl⟩
    . exact wpAny_pyHash_int h
    . exact wpAny_pyHash_str h
  eqBool:=λhu hv h=>by
    rcases t7 hu with⟨i,t,rfl,rfl⟩|⟨x,t,rfl,rfl⟩
    . rcases t7 hv with⟨j,u,rfl,rfl⟩|⟨y,u,rfl,rfl⟩
      . rw[b8m]at h;exact wpAny_eqBool_int h
      . rw[b8o]at h;exact SeqAt.EqAt.int_str i t y u _ _ _ _ h
    . rcases t7 hv with⟨j,u,rfl,rfl⟩|⟨y,u,rfl,rfl⟩
      . rw[b8p]at h;exact SeqAt.EqAt.str_int x t j u _ _ _ _ h
      . rw[b8n]at h;exact wpAny_eqBool_str h
  «strs»:=λk x t v h=>by
    rcases t7 h with⟨i,u,rfl,e⟩|⟨y,u,rfl,e⟩
    . exact nomatch e
    . injection e with e1 _
      subst e1;cases v<;>rfl
inductive V where
  |non|bl (b:Bool)|int (i:Int)|str (x:bM)|byt (b:Array UInt8)|flt (b:UInt64)|ref (a:aC)|ty (n:String)
  deriving DecidableEq
def RelV:V->ai->Prop
  |.non,u=>u=bD
  |.bl b,u=>u=mW b
  |.int i,u=>∃t,u=gq i t
  |.str x,u=>∃t,u=sM x t
  |.byt b,u=>∃t,u=ai.bytes b t
  |.flt b,u=>∃t,u=ai.float b t
  |.ref a,u=>u=bt a
  |.ty n,u=>u=lr n
abbrev Vals:List V->List ai->Prop:=gr RelV
theorem Vals.length{xs:List V}{us:List ai}(r:Vals xs us):xs.length=us.length:=gQ r
theorem Vals.get:∀{xs:List V} {us:List ai} {i:Nat} {x:V},Vals xs us->xs[i]?=cz x->∃u,us[i]?=cz u/\RelV x u
  |_,_,_,_,.nil,e=>by simp at e
  |_,_,0,_,.cons r _,e=>by simp at e;subst e;exact⟨_,rfl,r⟩
  |_,_,i+1,x,.cons _ t,e=>by
    obtain⟨u,h1,h2⟩:=Vals.get (i:=i) (x:=x) t (by simpa using e);exact⟨u,by simpa using h1,h2⟩
theorem Vals.set(r:RelV x u):∀{xs:List V} {us:List ai} (i:Nat),Vals xs us->Vals (xs.set i x) (us.set i u)
  |_,_,_,.nil=>.nil
  |_,_,0,.cons _ t=>.cons r t
  |_,_,i+1,.cons q t=>.cons q (Vals.set r i t)
theorem Vals.append:∀{xs ys:List V} {us ws:List ai},Vals xs us->Vals ys ws->Vals (xs++ys) (us++ws)
  |_,_,_,_,.nil,s=>s
  |_,_,_,_,.cons r t,s=>.cons r (Vals.append t s)
theorem Vals.take:∀{xs:List V} {us:List ai} (n:Nat),Vals xs us->Vals (xs.take n) (us.take n)
  |_,_,0,_=>.nil
  |_,_,_+1,.nil=>.nil
  |_,_,n+1,.cons r t=>.cons r (Vals.take n t)
theorem Vals.drop:∀{xs:List V} {us:List ai} (n:Nat),Vals xs us->Vals (xs.drop n) (us.drop n)
  |_,_,0,r=>r
  |_,_,_+1,.nil=>.nil
  |_,_,n+1,.cons _ t=>Vals.drop n t
def b8q:Option V->Option ai->Prop
  |some v,cz u=>RelV v u
  |none,p4=>True
  |_,_=>False
def KV{κ:Type}:List (κ×V)->List (κ×ai)->Prop:=gr λ(p:κ×V) (q:κ×ai)=>p.1=q.1/\RelV p.2 q.2
def kV:Key->V
  |.inl i=>.int i
  |.inr x=>.str x
inductive HO where
  |lst (xs:List V)
  |tup (xs:List V)
  |dK (kvs:List (Key×V))|dT (kvs:List (List Key×V))
  |set (S:Int->Bool) (n:Nat)
  |ins (C dx:aC) (fs:List (bM×V))
  |own (x:aC)
  |xd (fs:List (bM×V))
  |met (f x:aC)
  |rng (lo hi:Int)
  |frz (o:gc) (u:HO)
  |tbl (ps:Array ai)
  |ext (φ:cM->Prop)
abbrev Hp:=aC->Option HO
def upd(H:Hp)(a:aC)(o:HO):Hp:=λb=>if b=a then cz o else H b
def g8{H:Hp}{a:aC}{o:HO}:upd H a o a=cz o:=by unfold upd;rw[aE rfl]
def c6{H:Hp}{a b:aC}{o:HO}(h:b≠a):upd H a o b=H b:=by unfold upd;rw[aM h]
def i4{H:Hp}{a b:aC}{o:HO}(h:H a=cz o)(h':H b=p4):a≠b:=by
  intro e;subst e;rw[h]at h';cases h'
def Pin(a:aC):HO->Prop
  |.tup _=>True
  |.frz _ (.own b)=>b=a
  |_=>False
abbrev c0R(a:aC):={u:HO // Pin a u}
def a6k(H:Hp)(h:cM)(a:aC)(qs:Array ai):Prop:=
  ∃ps:Array ai,h.get? a=cz {cls:=.none,data:=.fields ps}/\kW ps.toList/\∀(pos:fV) (cv:ai),mK pos ps.toList=cz cv->
    ∃c' oc vs q t t',cv=.ref c'/\H c'=cz (.frz oc (.own a))/\oc.data=.fields vs/\vs[1]?=cz (.str q t)/\qs[0]?=cz (.str q t')
section
variable (P:bA)(w:bQ)
def ObjOk(H:Hp)(h:cM)(a:aC):HO->Prop
  |.lst xs=>xs.length<=br/\∃(its:List ai) (n:Nat),Vals xs its/\h.get? a=cz {cls:=.type "list",data:=.seq its.toArray n}
  |.tup xs=>xs.length<=br/\∃its:List ai,Vals xs its/\IsTup h a its.toArray
  |.dK kvs=>kvs.length<=br/\(a==fA)=xn/\∃vs,KV kvs vs/\h.DictOf (a4Z P w) a vs
  |.dT kvs=>kvs.length<=br/\(a==fA)=xn/\∃xs:List (List Key×aC×ai),
      gr (λ(p:List Key×V) (q:List Key×aC×ai)=>p.1=q.1/\H q.2.1=cz (.tup (p.1.map kV))/\RelV p.2 q.2.2) kvs xs/\
      ∃o es ep,h.get? a=cz o/\o.ExactDict/\o.data=.dict es ep/\es.toList=xs.map (entryOfKey (tupleKind (a4Z P w)))/\(xs.map (·.1)).Nodup
  |.set S n=>h.SetOf (fH P w) a S n
  |.ins C dx fs=>H dx=cz (.own a)/\fs.length<=1000/\dx≠a/\h.get? a=cz (qE C dx)/\
      ∃mA,h.Ns1 dx mA/\(∀f,b8q (fs.lookup f) (mA f))/\PySem.Within mA (fs.map (·.1))
  |.own _=>∃o,h.get? a=cz o
  |.xd fs=>∃mA,h.Ns1 a mA/\∀f,b8q (fs.lookup f) (mA f)
  |.rng lo hi=>∃t u v,h.get? a=cz {cls:=.type "range",data:=.fields #[.int lo t,.int hi u,.int 1 v]}
  |.frz o u=>h.get? a=cz o/\ObjOk H h a u
  |.tbl ps=>a6k H h a ps
  |.met f x=>h.get? a=cz (oA (.ref f) (.ref x))
  |.ext φ=>φ h/\(∃o,h.get? a=cz o)/\∀h1 h2:cM,φ h1->(∀o,h1.get? a=cz o->h2.get? a=cz o)->φ h2
def HOk(H:Hp)(h:cM):Prop:=∀a o,H a=cz o->ObjOk P w H h a o
end
section
variable {P:bA}{w:bQ}{H H':Hp}{h h':cM}{a:aC}{o:HO}
theorem ObjOk.lt(x:ObjOk P w H h a o):a<h.objs.size:=by
  cases o with
  |lst xs=>obtain⟨_,_,_,_,e⟩:=x;exact aY e
  |tup xs=>obtain⟨_,_,_,p⟩:=x;exact p.lt
  |dK kvs=>obtain⟨_,_,_,_,o,_,_,e,_⟩:=x;exact aY e
  |dT kvs=>obtain⟨_,_,_,_,o,_,_,e,_⟩:=x;exact aY e
  |set S n=>obtain⟨o,_,_,_,e,_⟩:=x;exact aY e
  |ins C dx fs=>obtain⟨_,_,_,e,_⟩:=x;exact aY e
  |own y=>obtain⟨_,e⟩:=x;exact aY e
  |xd fs=>obtain⟨_,⟨_,_,_,e,_⟩,_⟩:=x;exact aY e
  |rng lo hi=>obtain⟨_,_,_,e⟩:=x;exact aY e
  |frz ob u=>obtain⟨e,_⟩:=x;exact aY e
  |tbl ps=>obtain⟨_,e,_⟩:=(show a6k H h a ps from x);exact aY e
  |met f y=>exact aY (show h.get? a=cz _ from x)
  |ext φ=>obtain⟨_,⟨_,e⟩,_⟩:=x;exact aY e
theorem Paired.mapP:∀{l₁:List α} {l₂:List β},gr F l₁ l₂->(∀a b,F a b->G a b)->gr G l₁ l₂
  |_,_,.nil,_=>.nil
  |_,_,.cons r t,f=>.cons (f _ _ r) (Paired.mapP t f)
def ObjOk.stay(x:ObjOk P w H h a o)(k:∀b u,(b=a\/H b=cz (.own a))->h.get? b=cz u->h'.get? b=cz u)
    (ho:∀b,H b=cz (.own a)->H' b=cz (.own a)) (ht:∀b (u:c0R a),H b=cz u.1->H' b=cz u.1):ObjOk P w H' h' a o:=by
  induction o with
  |lst xs=>obtain⟨z,its,n,r,e⟩:=x;exact⟨z,its,n,r,k _ _ (.inl rfl) e⟩
  |tup xs=>obtain⟨z,its,r,ob,e,c⟩:=x;exact⟨z,its,r,ob,k _ _ (.inl rfl) e,c⟩
  |dK kvs=>obtain⟨z,y,vs,r,ob,es,ep,e,c⟩:=x;exact⟨z,y,vs,r,ob,es,ep,k _ _ (.inl rfl) e,c⟩
  |dT kvs=>
    obtain⟨z,y,xs,r,ob,es,ep,e,c⟩:=x;exact⟨z,y,xs,Paired.mapP r λp q z=>⟨z.1,ht _ ⟨.tup _,trivial⟩ z.2.1,z.2.2⟩,ob,es,ep,k _ _ (.inl rfl) e,c⟩
  |set S n=>obtain⟨ob,es,ep,t,e,c⟩:=x;exact⟨ob,es,ep,t,k _ _ (.inl rfl) e,c⟩
  |ins C dx fs=>
    obtain⟨d,z,ne,e,mA,⟨od,es,ep,e2,c⟩,r⟩:=x;exact⟨ho _ d,z,ne,k _ _ (.inl rfl) e,mA,⟨od,es,ep,k _ _ (.inr d) e2,c⟩,r⟩
  |own y=>obtain⟨ob,e⟩:=x;exact⟨ob,k _ _ (.inl rfl) e⟩
  |xd fs=>obtain⟨mA,⟨od,es,ep,e,c⟩,r⟩:=x;exact⟨mA,⟨od,es,ep,k _ _ (.inl rfl) e,c⟩,r⟩
  |rng lo hi=>obtain⟨t,u,v,e⟩:=x;exact⟨t,u,v,k _ _ (.inl rfl) e⟩
  |frz ob u ih=>obtain⟨e,q⟩:=x;exact⟨k _ _ (.inl rfl) e,ih q⟩
  |tbl ps=>
    obtain⟨qs,e,t,f⟩:=(show a6k H h a ps from x);refine⟨qs,k a _ (.inl rfl) e,t,λpos cv z=>?_⟩;obtain⟨c,oc,vs,q,t1,t2,z1,z2,z3,z4,z5⟩:=f pos cv z;exact⟨c,oc,vs,q,t1,t2,z1,ht c ⟨.frz _ (.own a),rfl⟩ z2,z3,z4,z5⟩
  |met f y=>
    have e:h.get? a=cz (oA (.ref f) (.ref y)):=x;show h'.get? a=cz (oA (.ref f) (.ref y));exact k a _ (.inl rfl) e
  |ext φ=>obtain⟨p,⟨o,e⟩,st⟩:=x;exact⟨st _ _ p λo q=>k _ _ (.inl rfl) q,⟨o,k _ _ (.inl rfl) e⟩,st⟩
theorem HOk.lt(x:HOk P w H h)(e:H a=cz o):a<h.objs.size:=(x a o e).lt
def HOk.fresh(x:HOk P w H h)(e:h.objs.size<=a):H a=p4:=by
  cases q:H a with
  |none=>rfl
  |some u=>exact absurd (bx (x.lt q) e) (dS _)
def HOk.kept(x:HOk P w H h)(k:∀b u,h.get? b=cz u->h'.get? b=cz u):HOk P w H h':=λa o e=>
  (x a o e).stay (λb u _ q=>k b u q) (λ_ q=>q) λ_ _ q=>q
def HOk.laid(x:HOk P w H h)(k:∀b u,h.get? b=cz u->h'.get? b=cz u)(hp:h.objs.size<=a)(new:ObjOk P w (upd H a o) h' a o):HOk P w (upd H a o) h':=λb u e=>by
  have hn:=x.fresh hp;by_cases hb:b=a
  . subst hb;rw[g8]at e;cases e;exact new
  . rw[c6 hb]at e
    exact (x b u e).stay (λc v _ q=>k c v q) (λc q=>by rw[c6 (i4 q hn)];exact q) λc xs q=>by rw[c6 (i4 q hn)];exact q
end
def Rd(H:Hp)(a:aC)(u:HO):Prop:=H a=cz u\/∃o,H a=cz (.frz o u)
def Rd.ok{P:bA}{w:bQ}{H:Hp}{h:cM}{a:aC}{u:HO}(r:Rd H a u)(x:HOk P w H h):ObjOk P w H h a u:=by
  rcases r with r|⟨o,r⟩
  . exact x a u r
  . obtain⟨_,q⟩:=x a _ r
    exact q
def Mut:Option HO->Prop
  |some (.lst _)=>True
  |some (.dK _)=>True
  |some (.dT _)=>True
  |some (.set _ _)=>True
  |some (.ins _ _ _)=>True
  |some (.ext _)=>True
  |_=>False
section
variable {P:bA}{w:bQ}{H:Hp}{h h':cM}{x e:aC}{o':HO}
def HOk.write(ok:HOk P w H h)(mu:Mut (H x))(he:e=x\/H e=cz (.own x))(k:∀b u,b≠e->h.get? b=cz u->h'.get? b=cz u)(vC:∃u,h'.get? e=cz u)
    (new:ObjOk P w (upd H x o') h' x o'):HOk P w (upd H x o') h':=λb u q=>by
  have wa:∀c y,H c=cz (.own y)->c≠x:=λc y r z=>by subst z;rw[r]at mu;exact mu
  have yV:∀{bq:aC} c (u:c0R bq),H c=cz u.1->c≠x:=λ{bq} c u r z=>by subst z;rw[r]at mu;obtain⟨u,hu⟩:=u;cases u<;>first|exact hu|exact mu
  by_cases hb:b=x
  . subst hb;rw[g8]at q;cases q;exact new
  . rw[c6 hb]at q
    by_cases uM:b=e
    . have q':H b=cz (.own x):=by
        rcases he with z|z
        . exact absurd (uM.trans z) hb
        . rw[uM];exact z
      rw[q]at q';cases q';obtain⟨v,hv⟩:=vC;exact⟨v,by rw[uM];exact hv⟩
    . refine (ok b u q).stay (λc v hc r=>k c v ?_ r) (λc r=>by rw[c6 (wa c b r)];exact r) λc xs r=>by rw[c6 (yV c xs r)];exact r
      rcases hc with rfl|hc
      . exact uM
      . rintro rfl
        rcases he with z|z
        . exact wa c b hc z
        . rw[hc]at z;cases z;exact hb rfl
end
structure Un (fs ex:List aC) (H H':Hp) (h h':cM):Prop where
  keep:∀b o,h.get? b=cz o->H b=p4->b∉fs->b∉ex->h'.get? b=cz o
  slot:∀b o,h.get? b=cz o->H b=p4->b∈fs->b∉ex->∃sl,h'.get? b=cz {o with slots:=sl}
  free:∀b o,h.get? b=cz o->H b=p4->b∉ex->H' b=p4
  there:∀b o,h.get? b=cz o->b∉ex->∃o',h'.get? b=cz o'
  tups:∀b xs,H b=cz (.tup xs)->H' b=cz (.tup xs)
  frzs:∀b o u,H b=cz (.frz o u)->H' b=cz (.frz o u)
  tbls:∀b ps,H b=cz (.tbl ps)->∃more,H' b=cz (.tbl (ps++more))
section
variable {fs mz ex GS:List aC}{H H1 H2:Hp}{h h1 h2 h':cM}{a x e:aC}{o:HO}
def Un.any(u:Un fs ex H H1 h h1)(q:h.get? b=cz ob)(n:H b=p4)(hx:b∉ex):∃sl,h1.get? b=cz {ob with slots:=sl}:=by
  by_cases hb:b∈fs
  . exact u.slot b ob q n hb hx
  . exact⟨ob.slots,u.keep b ob q n hb hx⟩
def Un.kept(k:∀b u,h.get? b=cz u->h'.get? b=cz u):Un fs ex H H h h':=
  ⟨λb ob q _ _ _=>k b ob q,λb ob q _ _ _=>⟨ob.slots,k b ob q⟩,λ_ _ _ n _=>n,λb ob q _=>⟨ob,k b ob q⟩,λ_ _ q=>q,λ_ _ _ q=>q,λ_ ps q=>⟨#[],by rw[q];simp⟩⟩
def Un.refl:Un fs ex H H h h:=Un.kept λ_ _ q=>q
def Un.laid(k:∀b u,h.get? b=cz u->h'.get? b=cz u)(hp:h.objs.size<=a)(hn:H a=p4):Un fs ex H (upd H a o) h h' where
  keep:=λb u q _ _ _=>k b u q
  slot:=λb u q _ _ _=>⟨u.slots,k b u q⟩
  free:=λb u q n _=>by rw[c6 (bO (bx (aY q) hp))];exact n
  there:=λb u q _=>⟨u,k b u q⟩
  tups:=λb xs q=>by rw[c6 (i4 q hn)];exact q
  frzs:=λb u xs q=>by rw[c6 (i4 q hn)];exact q
  tbls:=λb ps q=>⟨#[],by rw[c6 (i4 q hn),q];simp⟩
def Un.write(mu:Mut (H x))(he:e=x\/H e=cz (.own x))(k:∀b u,b≠e->h.get? b=cz u->h'.get? b=cz u)(vC:∃u,h'.get? e=cz u):Un fs ex H (upd H x o) h h':=by
  have hx:∀b,H b=p4->b≠x:=λb n z=>by subst z;rw[n]at mu;exact mu
  have hb:∀b,H b=p4->b≠e:=λb n z=>by
    subst z;rcases he with r|r
    . exact hx b n r
    . rw[n]at r;cases r
  have hm:∀b u,H b=cz u->¬ Mut (cz u)->b≠x:=λb u q nm z=>by subst z;rw[q]at mu;exact nm mu
  refine⟨λb u q n _ _=>k b u (hb b n) q,λb u q n _ _=>⟨u.slots,k b u (hb b n) q⟩,λb u q n _=>by rw[c6 (hx b n)];exact n,λb u q _=>?_,
    λb xs q=>by rw[c6 (hm b _ q λz=>z)];exact q,λb u xs q=>by rw[c6 (hm b _ q λz=>z)];exact q,λb ps q=>⟨#[],by rw[c6 (hm b _ q λz=>z),q];simp⟩⟩
  by_cases uM:b=e
  . subst uM;exact vC
  . exact⟨u,k b u uM q⟩
end
def trk(h:cM)(H:Hp):List aC:=(aw h.objs.size).filter λa=>(H a).isSome
def a5a(h:cM)(H:Hp):cM:=PySem.W.hideAll h (trk h H)
def b0u(h:cM)(H:Hp):(a5a h H).objs.size=h.objs.size:=PySem.W.hideAll_size _ _
def b2l{h:cM}(e:h.get? b=cz o)(n:H b=p4):(a5a h H).get? b=cz o:=
  PySem.W.hideAll_get _ e λhm=>by
    have q:(H b).isSome=rp:=(jB.mp hm).2;rw[n]at q;simp at q
def b5v(e:(a5a h H).get? b=cz o):h.get? b=cz o/\H b=p4:=by
  have e':h.get? b=cz o:=PySem.W.of_hideAll (trk h H) e;refine⟨e',?_⟩;cases q:H b with
  |none=>rfl
  |some x=>
    have hm:b∈trk h H:=jB.mpr ⟨bu.mpr (aY e'),by simp[q]⟩;have z:(a5a h H).get? b=p4:=PySem.W.hideAll_none (trk h H) hm;rw[z]at e;cases e
def b5w(g h:cM)(L:aC):List (aC×gc):=(aw h.objs.size).filterMap λa=>if a=L\/(g.get? a).isSome=rp then p4 else (h.get? a).map λo=>(a,o)
def rest(g h:cM)(L d:aC):List (aC×gc):=(b5w g h L).filter λp=>decide (p.1≠d)
def K1:List bM:=["ways_by_state","joins_by_pair","compare","first_gathering","least_asks"]
def U9(x:bM):bM:=x++".<locals>." ++ "<lambda>"
def a5b(K:ag)(cd:ai):Option aC:=match cd with
  |.ref c=>(match K.lookup c with
    |some ⟨.type n,_,.fields vs,_⟩=>if n=="code" then
        (match (vs[11]?:Option ai),(vs[18]?:Option ai),(vs[7]?:Option ai),(vs[9]?:Option ai),(vs[10]?:Option ai) with
        |some (.ref P),cz (.str _ _),cz (.int _ _),cz (.bool _),cz (.int _ _)=>if c !=P then cz P else p4
        |_,_,_,_,_=>p4) else p4
    |_=>p4)
  |_=>p4
def A0(K:ag)(x:bM):Option aC:=match gS K bU x with
  |some (cz (.ref f))=>(match K.lookup f with
    |some ⟨_,_,.func fd,_⟩=>a5b K fd.code
    |_=>p4)
  |_=>p4
def TabsIn(K:ag)(H:Hp):Prop:=∀x∈K1,∀p,A0 K x=cz p->∃qs t,H p=cz (.tbl qs)/\qs[0]?=cz (.str (U9 x) t)
def TabsIn.un{K:ag}{fs ex:List aC}{H H':Hp}{h h':cM}(a:TabsIn K H)(u:Un fs ex H H' h h'):TabsIn K H':=λx hx p e=>by
  obtain⟨qs,t,e1,e2⟩:=a x hx p e;obtain⟨more,e3⟩:=u.tbls p qs e1;refine⟨_,t,e3,?_⟩;have hz:0<qs.size:=by
    rcases bK 0 qs.size with z|z
    . exact z
    . rw[gi (by omega)]at e2;cases e2
  rw[Array.getElem?_append_left hz];exact e2
structure Mod (K:ag) (mg:bM->Option ai) (base:cM):Prop where
  kin:K.In base
  glob:base.Ns bU mg
  blt:∃mb,base.Ns lh mb/\∀x:bM,x≠"__name__"->mb x=ie x
  nolimit:base.NoLimit
  bmain:∃bm ob,mg "__builtins__"=cz (.ref bm)/\bm≠lh/\base.get? bm=cz ob/\ob.cls=.type "module"/\ob.dict=cz lh/\ob.data=.plain
structure Cx where
  prog:bA
  w:bQ
  K:ag
  mg:bM->Option ai
  base:cM
  A:bN
  N:List bM
  s₀:ao
  H₀:Hp
  env:pH
  outer:List pH
  stack:List pH
  ex:List aC
  fn:bM->Bool
  calm:Bool
  pn:List (aC×gc)
  xe:ai->ao->Prop
def frs(l:List pH):List aC:=l.filterMap (·.frame)
abbrev Cx.fs(X:Cx):List aC:=frs X.outer
def Vis(sc:gL)(x:bM):Prop:=sc.names.lookup x=cz .local\/sc.names.lookup x=cz .cell\/sc.names.lookup x=cz .free
abbrev NmV(X:Cx)(x:bM):Prop:=Vis X.env.scope x/\(x==("__debug__":bM))=xn/\(x==("__classdict__":bM))=xn
def Loc(sc:gL)(x:bM):Prop:=sc.names.lookup x=cz .local\/sc.names.lookup x=cz .cell
def Look(env:pH)(h:cM)(m:bM->Option ai)(x:bM)(u:ai):Prop:=
  (env.kindOf x=cz .local/\m x=cz u)\/((env.kindOf x=cz .cell\/env.kindOf x=cz .free)/\∃c,env.cells.lookup x=cz c/\h.IsCell c (cz u))
structure Cx.Ok (X:Cx):Prop where
  mod:Mod X.K X.mg X.base
  kind:X.env.scope.kind=.function
  glob:X.env.globals=bU
  blt:X.env.builtins=lh
  above:X.s₀.heap.objs.size<=X.env.locals
  inj:∀x y c,X.env.cells.lookup x=cz c->X.env.cells.lookup y=cz c->x=y
  has:∀x,(X.env.kindOf x=cz .cell\/X.env.kindOf x=cz .free)->∃c,X.env.cells.lookup x=cz c
  cab:∀x c,X.fn x=rp->X.env.cells.lookup x=cz c->X.s₀.heap.objs.size<=c
  hd:X.calm=rp->X.A.handled=p4
  frames:X.A.frames=cz X.stack
  stk:X.stack=X.outer\/(X.stack=X.env::X.outer/\X.env.frame=cz X.env.locals)
  exf:∀b∈X.ex,b≠X.env.locals/\∀x c,X.env.cells.lookup x=cz c->c≠b
  bs:∀b o,X.base.get? b=cz o->X.s₀.heap.get? b=cz o/\X.H₀ b=p4
  bsz:X.base.objs.size<=X.s₀.heap.objs.size
  noex:∀b o,X.base.get? b=cz o->b∉X.ex
  exfs:∀b∈X.ex,b∉X.fs
  funs:X.s₀.heap.FunFrames X.base X.outer
  frf:∀b∈X.fs,X.H₀ b=p4
  tabs:TabsIn X.K X.H₀
structure Inv (X:Cx) (pins:List (aC×gc)) (Y:List (Option V)) (H:Hp) (s:ao):Prop where
  ok:X.Ok
  os:s.os=X.s₀.os
  bare:p_ s.gens
  base:Un X.fs X.ex X.H₀ H X.s₀.heap s.heap
  loc:∃m,s.heap.Ns X.env.locals m/\∀(i:Nat) (x:bM) (v:V),X.N[i]?=cz x->Y[i]?=cz (cz v)->Vis X.env.scope x->∃u,RelV v u/\Look X.env s.heap m x u
  cell:∀x c,X.env.cells.lookup x=cz c->∃v,s.heap.IsCell c v
  free:H X.env.locals=p4
  freeC:∀x c,X.env.cells.lookup x=cz c->H c=p4
  pin:∀p∈X.pn++pins,s.heap.get? p.1=cz p.2/\H p.1=p4/\p.1≠X.env.locals/\p.1∉X.fs/\∀v,p.2.data≠.cell v
  hok:HOk X.prog X.w H s.heap
  len:Y.length=X.N.length
section
variable {X:Cx}{pins:List (aC×gc)}{Y:List (Option V)}{H H':Hp}{s:ao}{h':cM}
def Cx.Ok.nofr(ok:X.Ok)(e:X.base.get? b=cz o):b∉X.fs:=λhb=>by
  have:=(ok.funs.mem hb).1;rw[e]at this;cases this
theorem Inv.bs(I:Inv X pins Y H s):∀b o,X.base.get? b=cz o->s.heap.get? b=cz o/\H b=p4:=λb o e=>
  ⟨I.base.keep b o (I.ok.bs b o e).1 (I.ok.bs b o e).2 (I.ok.nofr e) (I.ok.noex b o e),I.base.free b o (I.ok.bs b o e).1 (I.ok.bs b o e).2 (I.ok.noex b o e)⟩
theorem Inv.tabs(I:Inv X pins Y H s):TabsIn X.K H:=I.ok.tabs.un I.base
def Inv.bk(I:Inv X pins Y H s):∀b o,X.base.get? b=cz o->s.heap.get? b=cz o:=λb o e=>(I.bs b o e).1
theorem Inv.mod(I:Inv X pins Y H s):Mod X.K X.mg X.base:=I.ok.mod
def Inv.kIn(I:Inv X pins Y H s):X.K.In s.heap:=I.ok.mod.kin.keeps I.bk
theorem Inv.lt(I:Inv X pins Y H s):X.env.locals<s.heap.objs.size:=let⟨_,hn,_⟩:=I.loc;hn.lt
def Inv.sz(I:Inv X pins Y H s):X.s₀.heap.objs.size<=s.heap.objs.size:=cC I.ok.above (eJ I.lt)
def Inv.nofs(I:Inv X pins Y H s)(h:s.heap.objs.size<=a):a∉X.fs:=λhb=>by
  obtain⟨_,o,ho,_⟩:=I.ok.funs.mem hb;exact absurd (bx (aY ho) (cC I.sz h)) (dS _)
def Inv.cne(I:Inv X pins Y H s):∀x c,X.env.cells.lookup x=cz c->c≠X.env.locals:=λx c e z=>by
  obtain⟨v,o,ho,hd⟩:=I.cell x c e;obtain⟨m,⟨o',es,ep,oO,jO,_⟩,_⟩:=I.loc;rw[z,oO]at ho;cases ho;rw[jO]at hd;cases hd
theorem Inv.funs(I:Inv X pins Y H s):s.heap.FunFrames X.base X.outer:=by
  have all:∀(l:List pH),(∀b∈frs l,b∈X.fs)->X.s₀.heap.FunFrames X.base l->s.heap.FunFrames X.base l:=by
    intro l
    induction l with
    |nil=>intro _ _;trivial
    |cons env r ih=>
      intro hs hl;obtain⟨hk,⟨L,o,hf,hn,ho,hd⟩,hr⟩:=hl;have hL:L∈X.fs:=hs L (by unfold frs;rw[jH,hf];exact aK);obtain⟨sl,e⟩:=I.base.slot L o ho (I.ok.frf L hL) hL λz=>I.ok.exfs L z hL
      exact⟨hk,⟨L,_,hf,hn,e,hd⟩,ih (λb hb=>hs b (by unfold frs;rw[jH,hf];exact ar _ hb)) hr⟩
  exact all X.outer (λ_ hb=>hb) I.ok.funs
theorem Inv.stack(I:Inv X pins Y H s):s.heap.FunFrames X.base X.stack:=by
  rcases I.ok.stk with e|⟨e,hf⟩
  . rw[e];exact I.funs
  . rw[e]
    obtain⟨m,hn,_⟩:=I.loc;refine .cons (by rw[I.ok.kind];decide) hf hn ?_ I.funs;exact cM.get?_none_of_le (cC I.ok.bsz I.ok.above)
def Inv.stkSub(I:Inv X pins Y H s):∀b∈frs X.stack,b∈X.env.locals::X.fs:=λb hb=>by
  rcases I.ok.stk with e|⟨e,hf⟩
  . rw[e]at hb;exact ar _ hb
  . rw[e]at hb
    unfold frs at hb;rw[jH,hf]at hb;exact hb
def Inv.stkFree(I:Inv X pins Y H s):∀b∈frs X.stack,H b=p4:=λb hb=>by
  rcases aN.mp (I.stkSub b hb) with e|hb
  . rw[e];exact I.free
  . obtain⟨_,o,ho,_⟩:=I.ok.funs.mem hb
    exact I.base.free b o ho (I.ok.frf b hb) λz=>I.ok.exfs b z hb
def Inv.step{g':Array xT}{t':Nat}{d':Drawn}{ch:List aC}(I:Inv X pins Y H s)
    (pU:∀b∈ch,(b∈X.ex\/X.s₀.heap.objs.size<=b)/\b≠X.env.locals/\(∀x c,X.env.cells.lookup x=cz c->c≠b)/\∀p∈X.pn++pins,p.1≠b)
    (keep:∀b o,b≠X.env.locals->b∉X.fs->b∉ch->s.heap.get? b=cz o->H b=p4->h'.get? b=cz o)
    (slot:∀b o,b≠X.env.locals->b∈X.fs->b∉ch->s.heap.get? b=cz o->H b=p4->∃sl,h'.get? b=cz {o with slots:=sl}) (free:∀b o,b∉ch->s.heap.get? b=cz o->H b=p4->H' b=p4)
    (there:∀b o,b∉ch->s.heap.get? b=cz o->∃o',h'.get? b=cz o')
    (tups:∀b xs,H b=cz (.tup xs)->H' b=cz (.tup xs)) (frzs:∀b o u,H b=cz (.frz o u)->H' b=cz (.frz o u)) (tbls:∀b ps,H b=cz (.tbl ps)->∃more,H' b=cz (.tbl (ps++more)))
    (ns:∀m,s.heap.Ns X.env.locals m->h'.Ns X.env.locals m) (hok:HOk X.prog X.w H' h') (hg:p_ g') :
    Inv X pins Y H' {s with heap:=h',gens:=g',drawn:=d',toks:=t'}:=by
  have AY:∀b o,X.s₀.heap.get? b=cz o->b≠X.env.locals:=λb o e=>bO (bx (aY e) I.ok.above)
  have ya:∀b o,X.s₀.heap.get? b=cz o->b∉X.ex->b∉ch:=λb o e hx hb=>by
    rcases (pU b hb).1 with z|z
    . exact hx z
    . exact absurd (bx (aY e) z) (dS _)
  have cellK:∀x c,X.env.cells.lookup x=cz c->∀v,s.heap.IsCell c v->h'.IsCell c v:=λx c e v ⟨o,ho,hd⟩=>by
    have qV:c∉ch:=λz=>(pU c z).2.2.1 x c e rfl
    by_cases hc:c∈X.fs
    . obtain⟨sl,q⟩:=slot c o (I.cne x c e) hc qV ho (I.freeC x c e)
      exact⟨_,q,hd⟩
    . exact⟨o,keep c o (I.cne x c e) hc qV ho (I.freeC x c e),hd⟩
  refine⟨I.ok,I.os,hg,⟨λb o e n hb hx=>?_,λb o e n hb hx=>?_,λb o e n hx=>?_,λb o e hx=>?_,λb xs e=>tups b xs (I.base.tups b xs e),λb o xs e=>frzs b o xs (I.base.frzs b o xs e),λb ps e=>?_⟩,?_,λx c e=>?_,?_,λx c e=>?_,λp hp=>?_,hok,I.len⟩
  . exact keep b o (AY b o e) hb (ya b o e hx) (I.base.keep b o e n hb hx) (I.base.free b o e n hx)
  . obtain⟨sl,e1⟩:=I.base.slot b o e n hb hx
    obtain⟨AO,e2⟩:=slot b _ (AY b o e) hb (ya b o e hx) e1 (I.base.free b o e n hx);exact⟨AO,e2⟩
  . obtain⟨o',e1⟩:=I.base.there b o e hx
    exact free b o' (ya b o e hx) e1 (I.base.free b o e n hx)
  . obtain⟨o',e1⟩:=I.base.there b o e hx
    exact there b o' (ya b o e hx) e1
  . obtain⟨m1,e1⟩:=I.base.tbls b ps e
    obtain⟨m2,e2⟩:=tbls b _ e1;exact⟨m1++m2,by rw[e2,ki]⟩
  . obtain⟨m,hn,hl⟩:=I.loc
    refine⟨m,ns m hn,λi x v e1 e2 e3=>?_⟩;obtain⟨u,r,l⟩:=hl i x v e1 e2 e3;refine⟨u,r,?_⟩;rcases l with l|⟨k,c,e,z⟩
    . exact .inl l
    . exact .inr ⟨k,c,e,cellK x c e _ z⟩
  . obtain⟨v,z⟩:=I.cell x c e
    exact⟨v,cellK x c e v z⟩
  . obtain⟨m,⟨o,_,_,ho,_⟩,_⟩:=I.loc
    exact free _ o (λz=>(pU _ z).2.1 rfl) ho I.free
  . obtain⟨v,o,ho,hd⟩:=I.cell x c e
    exact free c o (λz=>(pU c z).2.2.1 x c e rfl) ho (I.freeC x c e)
  . obtain⟨e,n,ne,nf,d⟩:=I.pin p hp
    have qV:p.1∉ch:=λz=>(pU p.1 z).2.2.2 p hp rfl
    exact⟨keep p.1 p.2 ne nf qV e n,free p.1 p.2 qV e n,ne,nf,d⟩
def Inv.un(I:Inv X pins Y H s)(u:Un X.fs [] H H' s.heap h')(hok:HOk X.prog X.w H' h'):Inv X pins Y H' {s with heap:=h',toks:=t'}:=by
  obtain⟨m,⟨o,es,ep,ho,r⟩,_⟩:=id I.loc;obtain⟨sl,hL⟩:=u.any ho I.free (by simp);exact I.step (g':=s.gens) (d':=s.drawn) (ch:=[]) (λ_ z=>nomatch z) (λb o _ hb _ e n=>u.keep b o e n hb (by simp)) (λb o _ hb _ e n=>u.slot b o e n hb (by simp)) (λb o _ e n=>u.free b o e n (by simp)) (λb o _ e=>u.there b o e (by simp)) u.tups u.frzs u.tbls (λm' hm=>by
    obtain⟨o',es',sJ,oO,r'⟩:=hm;rw[ho]at oO;cases oO;exact⟨_,es',sJ,hL,r'⟩) hok I.bare
def Inv.call(I:Inv X pins Y H s)(u:Un (frs X.stack) ch H H' s.heap h')(hok:HOk X.prog X.w H' h')(hg:p_ g')
    (pU:∀b∈ch,(b∈X.ex\/X.s₀.heap.objs.size<=b)/\b≠X.env.locals/\(∀x c,X.env.cells.lookup x=cz c->c≠b)/\∀p∈X.pn++pins,p.1≠b) :
    Inv X pins Y H' {s with heap:=h',gens:=g',drawn:=d',toks:=t'}:=by
  obtain⟨m,⟨o,es,ep,ho,r⟩,_⟩:=id I.loc;obtain⟨sl,hL⟩:=u.any ho I.free λz=>(pU _ z).2.1 rfl
  exact I.step (ch:=ch) pU (λb o hL hb hc e n=>u.keep b o e n (λz=>(aN.mp (I.stkSub b z)).elim hL hb) hc) (λb o _ _ hc e n=>u.any e n hc) (λb o hc e n=>u.free b o e n hc) (λb o hc e=>u.there b o e hc) u.tups u.frzs u.tbls (λm' hm=>by
    obtain⟨o',es',sJ,oO,r'⟩:=hm;rw[ho]at oO;cases oO;exact⟨_,es',sJ,hL,r'⟩) hok hg
def Inv.turned(I:Inv X pins Y H s)(k:∀b o,b≠it->s.heap.get? b=cz o->h'.get? b=cz o)(hn:H it=p4)(hL:it≠X.env.locals)
    (h1:it∈X.ex\/X.s₀.heap.objs.size<=it) (h2:∀x c,X.env.cells.lookup x=cz c->c≠it) (h3:∀p∈X.pn++pins,p.1≠it):Inv X pins Y H {s with heap:=h',toks:=t'}:=by
  have AW:∀b u,H b=cz u->b≠it:=λb u e z=>by rw[z,hn]at e;cases e
  refine I.step (g':=s.gens) (d':=s.drawn) (ch:=[it]) (λb hb=>?_) (λb o _ _ hc e _=>k b o (λz=>hc (by simp[z])) e) (λb o _ _ hc e _=>⟨o.slots,k b o (λz=>hc (by simp[z])) e⟩) (λ_ _ _ _ n=>n)
    (λb o hc e=>⟨o,k b o (λz=>hc (by simp[z])) e⟩) (λ_ _ e=>e) (λ_ _ _ e=>e) (λb ps e=>⟨#[],by rw[e];simp⟩) (λm hm=>?_) (λb u e=>?_) I.bare
  . have e:b=it:=by simpa using hb
    subst e;exact⟨h1,hL,h2,h3⟩
  . obtain⟨o,es,ep,ho,r⟩:=hm
    exact⟨o,es,ep,k _ o (fm hL) ho,r⟩
  . refine (I.hok b u e).stay (λc v hc q=>k c v ?_ q) (λ_ q=>q) λ_ _ q=>q
    rcases hc with z|z
    . rw[z];exact AW b u e
    . exact AW c _ z
def Inv.tok(I:Inv X pins Y H s)(t:Nat):Inv X pins Y H {s with toks:=t}:=I.un (h':=s.heap) (t':=t) Un.refl I.hok
theorem Inv.kept(I:Inv X pins Y H s)(k:∀b u,s.heap.get? b=cz u->h'.get? b=cz u):Inv X pins Y H {s with heap:=h',toks:=t'}:=I.un (Un.kept k) (I.hok.kept k)
theorem Inv.laid{a:aC}{o:HO}{t':Nat}(I:Inv X pins Y H s)(k:∀b u,s.heap.get? b=cz u->h'.get? b=cz u)(hp:s.heap.objs.size<=a)(new:ObjOk X.prog X.w (upd H a o) h' a o) :
    Inv X pins Y (upd H a o) {s with heap:=h',toks:=t'}:=I.un (Un.laid k hp (I.hok.fresh hp)) (I.hok.laid k hp new)
theorem Inv.write(I:Inv X pins Y H s)(mu:Mut (H x))(he:e=x\/H e=cz (.own x))(k:∀b u,b≠e->s.heap.get? b=cz u->h'.get? b=cz u)(vC:∃u,h'.get? e=cz u)
    (new:ObjOk X.prog X.w (upd H x o) h' x o):Inv X pins Y (upd H x o) {s with heap:=h',toks:=t'}:=I.un (Un.write mu he k vC) (I.hok.write mu he k vC new)
def Inv.pins_of(I:Inv X pins Y H s)(h:∀p∈lS,s.heap.get? p.1=cz p.2/\H p.1=p4/\p.1≠X.env.locals/\p.1∉X.fs/\∀v,p.2.data≠.cell v):Inv X lS Y H s:=
  ⟨I.ok,I.os,I.bare,I.base,I.loc,I.cell,I.free,I.freeC,λp hp=>(ay.mp hp).elim (λz=>I.pin p (ak _ z)) (h p),I.hok,I.len⟩
def a6l{N:List bM}(hN:N.Nodup){i j:Nat}{x:bM}(a:N[i]?=cz x)(b:N[j]?=cz x):i=j:=by
  obtain⟨h1,e1⟩:=aD.mp a;obtain⟨h2,e2⟩:=aD.mp b;exact (List.getElem_inj hN).mp (e1.trans e2.symm)
def b0v{M:Model}{A:bN}{E:ai->ao->Prop}{i:Nat}{x:bM}{v:V}{u:ai}{Q:Unit->ao->Prop}(I:Inv X pins Y H s)(hN:X.N.Nodup)(hi:X.N[i]?=cz x)(hx:Loc X.env.scope x)(r:RelV v u)
    (h:∀s',Inv X pins (Y.set i (cz v)) H s'->(∃a,jq a s.heap s'.heap/\(a=X.env.locals\/X.env.cells.lookup x=cz a))->Q () s') (hf:autoParam (X.fn x=rp\/X.env.scope.names.lookup x=cz .local) ZZ._auto_1):aW M A (storeName X.env x u) Q E s:=by
  obtain⟨m,hn,hl⟩:=id I.loc;have Ad:(X.env.scope.kind==.class||(X.env.scope.kind==.module&&X.env.locals !=X.env.globals))=xn:=by rw[I.ok.kind];rfl
  have wY:i<Y.length:=by rw[I.len];exact (aD.mp hi).1
  have cne:=I.cne;have tracked:∀{a:aC} {h':cM},(∃o,s.heap.get? a=cz o/\H a=p4)->jq a s.heap h'->HOk X.prog X.w H h':=λ{a h'} ha hs b ob e=>by
    obtain⟨_,_,oh⟩:=ha;refine (I.hok b ob e).stay (λc w' hc q=>(hs.2 c ?_).trans q) (λ_ q=>q) λ_ _ q=>q
    rintro rfl;rcases hc with rfl|hc
    . rw[oh]at e;cases e
    . rw[oh]at hc;cases hc
  rcases hx with hk|hk
  . refine wpAny_storeName_local hk hn (λh' wM hs=>?_) Ad
    obtain⟨oL,_,_,DH,_⟩:=id hn;refine h _ ⟨I.ok,I.os,I.bare,⟨λb o e n hb hx=>?_,λb o e n hb hx=>?_,I.base.free,λb o e hx=>?_,I.base.tups,I.base.frzs,I.base.tbls⟩,⟨_,wM,λj y v' e1 e2 e3=>?_⟩,λy c e=>?_,I.free,I.freeC,λp hp=>?_,tracked ⟨oL,DH,I.free⟩ hs,by simpa using I.len⟩ ⟨_,hs,.inl rfl⟩
    . exact (hs.2 b (bO (bx (aY e) I.ok.above))).trans (I.base.keep b o e n hb hx)
    . obtain⟨sl,e1⟩:=I.base.slot b o e n hb hx
      exact⟨sl,(hs.2 b (bO (bx (aY e) I.ok.above))).trans e1⟩
    . obtain⟨o',e1⟩:=I.base.there b o e hx
      exact⟨o',(hs.2 b (bO (bx (aY e) I.ok.above))).trans e1⟩
    . by_cases hj:j=i
      . subst hj
        rw[hi]at e1;cases e1;rw[eu wY]at e2;cases e2
        exact⟨u,r,.inl ⟨hk,by simp⟩⟩
      . rw[bS (fm hj)]at e2
        obtain⟨u',r',q⟩:=hl j y v' e1 e2 e3;refine⟨u',r',?_⟩;rcases q with⟨k,e⟩|⟨k,c,e,z⟩
        . refine .inl ⟨k,?_⟩
          have:y≠x:=λe=>hj (a6l hN e1 (e▸hi))
          simp[this,e]
        . exact .inr ⟨k,c,e,z.sameBut hs (cne y c e)⟩
    . obtain⟨w',z⟩:=I.cell y c e
      exact⟨w',z.sameBut hs (cne y c e)⟩
    . obtain⟨e,n,ne,nf,d⟩:=I.pin p hp
      exact⟨(hs.2 p.1 ne).trans e,n,ne,nf,d⟩
  . have o_:X.fn x=rp:=by
      rcases hf with z|z
      . exact z
      . rw[z]at hk;cases hk
    obtain⟨c,hc⟩:=I.ok.has x (.inl hk);obtain⟨w',z⟩:=I.cell x c hc;refine wpAny_storeName_cell I.ok.kind hk hc z (λh' uL hs=>?_);obtain⟨oc,wH,zF⟩:=id z;refine h {s with heap:=h'} ⟨I.ok,I.os,I.bare,⟨λb o e n hb hx=>?_,λb o e n hb hx=>?_,I.base.free,λb o e hx=>?_,I.base.tups,I.base.frzs,I.base.tbls⟩,⟨m,hn.sameBut hs (fm (cne x c hc)),λj y v' e1 e2 e3=>?_⟩,λy c' e=>?_,I.free,I.freeC,λp hp=>?_,tracked ⟨oc,wH,I.freeC x c hc⟩ hs,by simpa using I.len⟩ ⟨c,hs,.inr hc⟩
    . exact (hs.2 b (bO (bx (aY e) (I.ok.cab x c o_ hc)))).trans (I.base.keep b o e n hb hx)
    . obtain⟨sl,e1⟩:=I.base.slot b o e n hb hx
      exact⟨sl,(hs.2 b (bO (bx (aY e) (I.ok.cab x c o_ hc)))).trans e1⟩
    . obtain⟨o',e1⟩:=I.base.there b o e hx
      exact⟨o',(hs.2 b (bO (bx (aY e) (I.ok.cab x c o_ hc)))).trans e1⟩
    . by_cases hj:j=i
      . subst hj
        rw[hi]at e1;cases e1;rw[eu wY]at e2;cases e2
        exact⟨u,r,.inr ⟨.inl hk,c,hc,uL⟩⟩
      . rw[bS (fm hj)]at e2
        obtain⟨u',r',q⟩:=hl j y v' e1 e2 e3;refine⟨u',r',?_⟩;rcases q with q|⟨k,c',e,z'⟩
        . exact .inl q
        . refine .inr ⟨k,c',e,z'.sameBut hs ?_⟩
          rintro rfl;exact hj (a6l hN e1 (I.ok.inj _ _ _ e hc▸hi))
    . by_cases yp:c'=c
      . subst yp;exact⟨_,uL⟩
      . obtain⟨w2,z2⟩:=I.cell y c' e
        exact⟨w2,z2.sameBut hs yp⟩
    . obtain⟨e,n,ne,nf,d⟩:=I.pin p hp
      refine⟨(hs.2 p.1 ?_).trans e,n,ne,nf,d⟩;intro q;rw[q,wH]at e;have q':oc=p.2:=aF e;exact d w' (by rw[<-q'];exact zF)
def a0w(I:Inv X pins Y H s)(hN:X.N.Nodup)(hi:X.N[i]?=cz x)(hx:Loc X.env.scope x)(r:RelV v u)
    (h:∀s',Inv X pins (Y.set i (cz v)) H s'->Q () s') (hf:autoParam (X.fn x=rp\/X.env.scope.names.lookup x=cz .local) ZZ._auto_1):aW M A (storeName X.env x u) Q E s:=
  b0v I hN hi hx r (λs' I' _=>h s' I') hf
def Inv.call'{s':ao}(I:Inv X pins Y H s)(ho:s'.os=s.os)(u:Un (frs X.stack) ch H H' s.heap s'.heap)(hok:HOk X.prog X.w H' s'.heap)(hg:p_ s'.gens)
    (pU:∀b∈ch,(b∈X.ex\/X.s₀.heap.objs.size<=b)/\b≠X.env.locals/\(∀x c,X.env.cells.lookup x=cz c->c≠b)/\∀p∈X.pn++pins,p.1≠b):Inv X pins Y H' s':=by
  obtain⟨h',g',d',t',o'⟩:=s';have e:o'=s.os:=ho;subst e;exact I.call (g':=g') (t':=t') (d':=d') u hok hg pU
end
abbrev XK:=ai->Option aC->Hp->Prop
abbrev St:=List (Option V)
abbrev VK:=V->Hp->Prop
abbrev TE:=St->Hp->VK->Prop
abbrev TT:=St->Hp->(Bool->Hp->Prop)->Prop
abbrev TA:=St->Hp->(List V->Hp->Prop)->Prop
structure Ends where
  nx:St->Hp->Prop
  rt:VK
  bk:St->Hp->Prop:=λ_ _=>False
  ct:St->Hp->Prop:=λ_ _=>False
abbrev TS:=Ends->St->Hp->Prop
def EP(X:Cx)(pins:List (aC×gc))(Y:St)(Q:VK)(u:ai)(s':ao):Prop:=∃v H',Inv X pins Y H' s'/\RelV v u/\Q v H'
def TP(X:Cx)(pins:List (aC×gc))(Y:St)(Q:Bool->Hp->Prop)(b:Bool)(s':ao):Prop:=∃H',Inv X pins Y H' s'/\Q b H'
def AP(X:Cx)(pins:List (aC×gc))(Y:St)(Q:List V->Hp->Prop)(us:List ai)(s':ao):Prop:=∃vs H',Inv X pins Y H' s'/\Vals vs us/\Q vs H'
def SP(X:Cx)(pins:List (aC×gc))(D:Ends)(f:Flow)(s':ao):Prop:=
  match f with
  |.next=>∃Y' H',Inv X pins Y' H' s'/\D.nx Y' H'
  |.brk=>∃Y' H',Inv X pins Y' H' s'/\D.bk Y' H'
  |.cont=>∃Y' H',Inv X pins Y' H' s'/\D.ct Y' H'
  |.ret u=>∃v Y' H',Inv X pins Y' H' s'/\RelV v u/\D.rt v H'
def PE(X:Cx)(e:Expr)(t:TE):Prop:=
  ∀(pins:List (aC×gc)) (s:ao) (Y:St) (H:Hp) (Q:VK),Inv X pins Y H s->t Y H Q->aW (a_ X.prog X.w) X.A (cI e X.env) (EP X pins Y Q) X.xe s
def PT(X:Cx)(e:Expr)(t:TT):Prop:=
  ∀(pins:List (aC×gc)) (s:ao) (Y:St) (H:Hp) (Q:Bool->Hp->Prop),Inv X pins Y H s->t Y H Q->aW (a_ X.prog X.w) X.A (CZ e X.env (cI e X.env)) (TP X pins Y Q) X.xe s
def PW(X:Cx)(e:Expr)(t:TT):Prop:=
  ∀(whole:AE ai) (pins:List (aC×gc)) (s:ao) (Y:St) (H:Hp) (Q:Bool->Hp->Prop),Inv X pins Y H s->t Y H Q->aW (a_ X.prog X.w) X.A (CZ e X.env whole) (TP X pins Y Q) X.xe s
def PW.pt(h:PW X e t):PT X e t:=h _
def PA(X:Cx)(es:List Expr)(t:TA):Prop:=
  ∀(pos:fV) (pins:List (aC×gc)) (s:ao) (Y:St) (H:Hp) (Q:List V->Hp->Prop),Inv X pins Y H s->t Y H Q->aW (a_ X.prog X.w) X.A (spliced (cD pos (au es X.env))) (AP X pins Y Q) X.xe s
def PS(X:Cx)(st:iO)(t:TS):Prop:=
  ∀(pins:List (aC×gc)) (s:ao) (Y:St) (H:Hp) (D:Ends),Inv X pins Y H s->t D Y H->aW (a_ X.prog X.w) X.A (exec st X.env) (SP X pins D) X.xe s
def PSs(X:Cx)(st:List iO)(t:TS):Prop:=
  ∀(pins:List (aC×gc)) (s:ao) (Y:St) (H:Hp) (D:Ends),Inv X pins Y H s->t D Y H->aW (a_ X.prog X.w) X.A (execs st X.env) (SP X pins D) X.xe s
def thn{α:Type}{t:AE α}{Q Q':α->ao->Prop}{M:Model}{A:bN}{E:ai->ao->Prop}{s:ao}(h:aW M A t Q E s)(hQ:∀a s,Q a s->Q' a s):aW M A t Q' E s:=dW h hQ λ_ _ x=>x
section
variable {X:Cx}
def c0S(i:Nat):TE:=λY H Q=>∃v,Y[i]?=cz (cz v)/\Q v H
def tC(v:V):TE:=λ_ H Q=>Q v H
def C6(hN:X.N[i]?=cz x)(hv:Vis X.env.scope x)(hd:(x==("__debug__":bM))=xn:=by decide)(nI:(x==("__classdict__":bM))=xn:=by decide):PE X (.Name x pos) (c0S i):=by
  intro pins s Y H Q I h;obtain⟨v,e,h⟩:=h;obtain⟨m,hn,hl⟩:=I.loc;obtain⟨u,r,l⟩:=hl i x v hN e hv;have fin:EP X pins Y Q u s:=⟨v,H,I,r,h⟩;rcases l with⟨hk,hm⟩|⟨hk,c,hc,nr⟩
  . exact wpAny_Name (wpAny_loadName_local I.ok.kind hk hn hm fin) hd
  . rcases hk with hk|hk
    . exact wpAny_Name (wpAny_loadName_cell I.ok.kind hk hc nr fin) hd
    . exact wpAny_Name (wpAny_loadName_free I.ok.kind hk hc nr fin nI) hd
def a7C{i j pos}:PE X (.Constant (.int i) j pos) (tC (.int i)):=λ_ _ _ H _ I h=>wpAny_Constant_int ⟨.int i,H,I.tok _,⟨_,rfl⟩,h⟩
def c0T{b j pos}:PE X (.Constant (.bool b) j pos) (tC (.bl b)):=λ_ _ _ H _ I h=>Constant_bool ⟨.bl b,H,I,rfl,h⟩
def b8r{j pos}:PE X (.Constant .none j pos) (tC .non):=λ_ _ _ H _ I h=>Constant_none ⟨.non,H,I,rfl,h⟩
def Gl(X:Cx)(x:bM):Prop:=X.env.kindOf x=cz .globalImplicit
def a5c(I:Inv X pins Y H s)(hg:Gl X x)(hm:X.mg x=cz u)(h:Q u s)
    (hd:(x==("__debug__":bM))=xn:=by decide):aW (a_ X.prog X.w) X.A (cI (.Name x pos) X.env) Q E s:=
  xU I.ok.kind hg (Calls.loadGlobal_global (by rw[I.ok.glob];exact I.mod.glob.keeps I.bk) hm h) hd
def a0g(I:Inv X pins Y H s)(hg:Gl X x)(hm:X.mg x=p4)(hv:ie x=cz u)(h:Q u s)
    (hn:x≠"__name__":=by decide) (hd:(x==("__debug__":bM))=xn:=by decide):aW (a_ X.prog X.w) X.A (cI (.Name x pos) X.env) Q E s:=by
  obtain⟨mb,h1,h2⟩:=I.mod.blt;exact xU I.ok.kind hg (Calls.loadGlobal_builtin (by rw[I.ok.glob];exact I.mod.glob.keeps I.bk) hm (by rw[I.ok.blt];exact h1.keeps I.bk) ((h2 x hn).trans hv) h) hd
def a9l(hg:Gl X x)(hm:X.mg x=cz u)(r:RelV v u)(hd:(x==("__debug__":bM))=xn:=by decide):PE X (.Name x pos) (tC v):=
  λ_ _ _ H _ I h=>a5c I hg hm ⟨v,H,I,r,h⟩ hd
def b5x(hg:Gl X x)(hm:X.mg x=p4)(hv:ie x=cz u)(r:RelV v u)(hn:x≠"__name__":=by decide)(hd:(x==("__debug__":bM))=xn:=by decide):PE X (.Name x pos) (tC v):=
  λ_ _ _ H _ I h=>a0g I hg hm hv ⟨v,H,I,r,h⟩ hn hd
variable {a b:Expr}{ta tb:TE}{pos:fV}
def tB(t:TE):TT:=λY H Q=>t Y H λx H1=>∃c,x=.bl c/\Q c H1
variable {tA xX:TT}{rest:List Expr}
def c2T(t u:TT):TT:=λY H Q=>t Y H λc H1=>if c=rp then u Y H1 Q else Q xn H1
def tOr(t u:TT):TT:=λY H Q=>t Y H λc H1=>if c=rp then Q rp H1 else u Y H1 Q
def c2U(t:TT):TT:=λY H Q=>t Y H λc H1=>Q (!c) H1
def b5y(ha:PT X a tA):PW X (.BoolOp .And [a] pos) tA:=by
  intro wh pins s Y H Q I h;refine isTrue_and (thn (ha pins s Y H Q I h) λc s1 e=>?_);cases c with
  |true=>exact isTrue_and_nil e
  |false=>exact e
def b8s(ha:PT X a tA):PW X (.BoolOp .Or [a] pos) tA:=by
  intro wh pins s Y H Q I h;refine isTrue_or (thn (ha pins s Y H Q I h) λc s1 e=>?_);cases c with
  |false=>exact isTrue_or_nil e
  |true=>exact e
def b8t(ha:PT X a tA)(hb:PW X (.BoolOp .And (b::rest) pos) xX):PW X (.BoolOp .And (a::b::rest) pos) (c2T tA xX):=by
  intro wh pins s Y H Q I h;refine isTrue_and (thn (ha pins s Y H _ I h) λc s1 qz=>?_);obtain⟨H1,I1,q1⟩:=qz;cases c with
  |true=>exact hb wh pins s1 Y H1 Q I1 q1
  |false=>exact⟨H1,I1,q1⟩
def c0U(ha:PT X a tA)(hb:PW X (.BoolOp .Or (b::rest) pos) xX):PW X (.BoolOp .Or (a::b::rest) pos) (tOr tA xX):=by
  intro wh pins s Y H Q I h;refine isTrue_or (thn (ha pins s Y H _ I h) λc s1 qz=>?_);obtain⟨H1,I1,q1⟩:=qz;cases c with
  |true=>exact⟨H1,I1,q1⟩
  |false=>exact hb wh pins s1 Y H1 Q I1 q1
def b8u(ha:PT X a tA):PT X (.UnaryOp .Not a pos) (c2U tA):=by
  intro pins s Y H Q I h;exact isTrue_not (ha pins s Y H (λc H1=>Q (!c) H1) I h)
def c0V(ta tb:TE):TE:=λY H Q=>ta Y H λx H1=>∃c,x=.bl c/\if c=rp then tb Y H1 Q else Q (.bl xn) H1
def c0W(ta:TE):TE:=λY H Q=>ta Y H λx H1=>∃c,x=.bl c/\Q (.bl (!c)) H1
def b8v{op}(h:PE X a t):PE X (.BoolOp op [a] pos) t:=λpins s Y H Q I hw=>BoolOp_one (h pins s Y H Q I hw)
def b8w(ha:PE X a ta)(hb:PE X (.BoolOp .And (b::rest) pos) tb):PE X (.BoolOp .And (a::b::rest) pos) (c0V ta tb):=by
  intro pins s Y H Q I h;refine BoolOp_and (thn (ha pins s Y H _ I h) λv s1 qz=>?_);obtain⟨x,H1,I1,r1,q1⟩:=qz;obtain⟨c,rfl,q1⟩:=q1;cases r1
  refine fw ?_;cases c with
  |true=>exact hb pins s1 Y H1 Q I1 q1
  |false=>exact⟨.bl xn,H1,I1,rfl,q1⟩
def b8x(ha:PE X a ta):PE X (.UnaryOp .Not a pos) (c0W ta):=by
  intro pins s Y H Q I h;refine UnaryOp_ (thn (ha pins s Y H _ I h) λv s1 qz=>?_);obtain⟨x,H1,I1,r1,q1⟩:=qz;obtain⟨c,rfl,q1⟩:=q1;cases r1
  exact not_of (fw ⟨.bl (!c),H1,I1,rfl,q1⟩)
end
def SqL(K:ag)(H:Hp)(a:aC)(xs:List V):Prop:=
  Rd H a (.lst xs)\/
    ∃(o:gc) (its:Array ai) (n:Nat),K.lookup a=cz o/\o.cls=.type "list"/\o.dict=p4/\o.data=.seq its n/\its.size<=br/\Vals xs its.toList
def SqT(K:ag)(H:Hp)(a:aC)(xs:List V):Prop:=
  Rd H a (.tup xs)\/
    ∃(o:gc) (its:Array ai) (n:Nat),K.lookup a=cz o/\o.cls=.type "tuple"/\o.data=.seq its n/\its.size<=br/\Vals xs its.toList
def c2V:ai->Option V
  |.none=>cz .non
  |.bool b=>cz (.bl b)
  |.int i _=>cz (.int i)
  |.str x _=>cz (.str x)
  |.bytes b _=>cz (.byt b)
  |.float b _=>cz (.flt b)
  |.ref a=>cz (.ref a)
  |.type n=>cz (.ty n)
  |_=>p4
def RelV.abs(r:RelV x u):c2V u=cz x:=by
  cases x with
  |non=>cases r;rfl
  |bl _=>cases r;rfl
  |int _=>obtain⟨t,rfl⟩:=r;rfl
  |str _=>obtain⟨t,rfl⟩:=r;rfl
  |byt _=>obtain⟨t,rfl⟩:=r;rfl
  |flt _=>obtain⟨t,rfl⟩:=r;rfl
  |ref _=>cases r;rfl
  |ty _=>cases r;rfl
def RelV.inj(r:RelV x u)(q:RelV y u):x=y:=aF (r.abs.symm.trans q.abs)
theorem Vals.inj:∀{xs ys:List V} {us:List ai},Vals xs us->Vals ys us->xs=ys
  |_,_,_,.nil,.nil=>rfl
  |_,_,_,.cons r t,.cons r' t'=>by rw[r.inj r',Vals.inj t t']
section
variable {X:Cx}{pins:List (aC×gc)}{Y:St}{H:Hp}{s:ao}{a:aC}{xs ys:List V}
def SqL.of{K:ag}(h:H a=cz (.lst xs)):SqL K H a xs:=.inl (.inl h)
def SqT.of{K:ag}(h:H a=cz (.tup xs)):SqT K H a xs:=.inl (.inl h)
def Inv.list(I:Inv X pins Y H s)(h:SqL X.K H a xs):∃its:List ai,Vals xs its/\PlainL s.heap a its.toArray/\xs.length<=br:=by
  rcases h with h|⟨o,its,n,hk,hc,hd,hs,hz,r⟩
  . obtain⟨z,its,n,r,e⟩:=h.ok I.hok
    exact⟨its,r,⟨_,n,e,rfl,rfl,rfl⟩,z⟩
  . refine⟨its.toList,r,⟨o,n,I.kIn a o hk,hc,hd,by simpa using hs⟩,?_⟩
    have e:=r.length;simp only[aJ]at e;omega
def Inv.tuple(I:Inv X pins Y H s)(h:SqT X.K H a xs):∃its:List ai,Vals xs its/\IsTup s.heap a its.toArray/\xs.length<=br:=by
  rcases h with h|⟨o,its,n,hk,hc,hs,hz,r⟩
  . obtain⟨z,its,r,p⟩:=h.ok I.hok
    exact⟨its,r,p,z⟩
  . refine⟨its.toList,r,⟨o,I.kIn a o hk,hc,n,by simpa using hs⟩,?_⟩
    have e:=r.length;simp only[aJ]at e;omega
def Inv.list_inj(I:Inv X pins Y H s)(h:SqL X.K H a xs)(h':SqL X.K H a ys):xs=ys:=by
  obtain⟨its,r,⟨o,n,e,_,_,d⟩,_⟩:=I.list h;obtain⟨its',r',⟨o',n',e',_,_,d'⟩,_⟩:=I.list h';rw[e]at e';cases e';rw[d]at d'
  injection d' with d1 _
  have:its=its':=by simpa using dG Array.toList d1
  subst this;exact r.inj r'
end
abbrev Cx.wish(X:Cx)(E:ai->ao->Prop):Cx:={X with xe:=E}
abbrev Cx.nox(X:Cx):Cx:=X.wish λ_ _=>False
theorem Cx.Ok.wish{X:Cx}(ok:X.Ok)(E:ai->ao->Prop):(X.wish E).Ok:=
  ⟨ok.mod,ok.kind,ok.glob,ok.blt,ok.above,ok.inj,ok.has,ok.cab,ok.hd,ok.frames,ok.stk,ok.exf,ok.bs,ok.bsz,ok.noex,ok.exfs,ok.funs,ok.frf,ok.tabs⟩
def Cx.Ok.unwish{X:Cx}(ok:(X.wish E).Ok):X.Ok:=
  ⟨ok.mod,ok.kind,ok.glob,ok.blt,ok.above,ok.inj,ok.has,ok.cab,ok.hd,ok.frames,ok.stk,ok.exf,ok.bs,ok.bsz,ok.noex,ok.exfs,ok.funs,ok.frf,ok.tabs⟩
section
variable {X:Cx}{pins:List (aC×gc)}{Y:St}{H:Hp}{s:ao}{E:ai->ao->Prop}
theorem Inv.wish(I:Inv X pins Y H s)(E:ai->ao->Prop):Inv (X.wish E) pins Y H s:=⟨I.ok.wish E,I.os,I.bare,I.base,I.loc,I.cell,I.free,I.freeC,I.pin,I.hok,I.len⟩
theorem Inv.unwish(I:Inv (X.wish E) pins Y H s):Inv X pins Y H s:=⟨I.ok.unwish,I.os,I.bare,I.base,I.loc,I.cell,I.free,I.freeC,I.pin,I.hok,I.len⟩
theorem SP.unwish(h:SP (X.wish E) pins D f s'):SP X pins D f s':=by
  cases f with
  |next=>obtain⟨Y',H',I,q⟩:=h;exact⟨Y',H',I.unwish,q⟩
  |brk=>obtain⟨Y',H',I,q⟩:=h;exact⟨Y',H',I.unwish,q⟩
  |cont=>obtain⟨Y',H',I,q⟩:=h;exact⟨Y',H',I.unwish,q⟩
  |ret u=>obtain⟨v,Y',H',I,r,q⟩:=h;exact⟨v,Y',H',I.unwish,r,q⟩
theorem PSs.nox{st:List iO}{t:TS}(h:PSs X.nox st t):PSs X st t:=λpins s Y H D I hw=>
  dW (h pins s Y H D (I.wish _) hw) (λ_ _ q=>q.unwish) λ_ _ z=>cO z
end
section
variable {X:Cx}{st:iO}{rest:List iO}{t u:TS}{e:Expr}{te:TE}{pos:fV}
def c0X:TS:=λD Y H=>D.nx Y H
def c2W(t u:TS):TS:=λD Y H=>t {D with nx:=u D} Y H
def b5z:PSs X [] c0X:=λ_ _ Y H _ I h=>nh ⟨Y,H,I,h⟩
def a0x(h1:PS X st t)(h2:PSs X rest u):PSs X (st::rest) (c2W t u):=by
  intro pins s Y H D I h;refine wpAny_execs_cons (thn (h1 pins s Y H {D with nx:=u D} I h) λf s1 q=>?_);cases f with
  |next=>
    obtain⟨Y',H',I',q⟩:=q;exact h2 pins s1 Y' H' D I' q
  |ret v=>exact q
  |brk=>exact q
  |cont=>exact q
def a9m(h1:PS X st t):PSs X [st] t:=by
  intro pins s Y H D I h;refine wpAny_execs_cons (thn (h1 pins s Y H D I h) λf s1 q=>?_);cases f with
  |next=>exact nh q
  |ret v=>exact q
  |brk=>exact q
  |cont=>exact q
def Inv.quiet{pins:List (aC×gc)}{Y:St}{H:Hp}{s:ao}(I:Inv X pins Y H s):interactive X.env=xn:=by simp[interactive,I.ok.kind]
def c0Y(te:TE):TS:=λD Y H=>te Y H λ_ H1=>D.nx Y H1
def Q1(he:PE X e te)(hs:fx e p4 pos.line X.env=pure xn:=by rfl):PS X (.Expr e pos) (c0Y te):=by
  intro pins s Y H D I h;exact wpAny_Expr_any (thn (he pins s Y H _ I h) λv s1 ⟨x,H1,I1,r1,q1⟩=>⟨Y,H1,I1,q1⟩) I.quiet hs
def c2X(te:TE):TS:=λD Y H=>te Y H D.rt
def b8y(he:PE X e te):PS X (.Return (cz e) pos) (c2X te):=by
  intro pins s Y H D I h;exact wpAny_Return_some (thn (he pins s Y H _ I h) λv s1 ⟨x,H1,I1,r1,q1⟩=>⟨x,Y,H1,I1,r1,q1⟩)
def c2Y(c:TT)(t u:TS):TS:=λD Y H=>c Y H λb H1=>if b=rp then t D Y H1 else u D Y H1
def c0Z{c:Expr}{a b:List iO}{tc:TT}(hc:PT X c tc)(ha:PSs X a t)(hb:PSs X b u):PS X (.If c a b pos) (c2Y tc t u):=by
  intro pins s Y H D I h;refine wpAny_If (thn (hc pins s Y H _ I h) λd s1 qz=>?_);obtain⟨H1,I1,q1⟩:=qz;cases d with
  |true=>exact ha pins s1 Y H1 D I1 q1
  |false=>exact hb pins s1 Y H1 D I1 q1
def b8z:TS:=λ_ _ _=>False
def b2m:PS X st b8z:=λ_ _ _ _ _ _ h=>h.elim
end
abbrev TG:=V->St->Hp->(St->Hp->Prop)->Prop
abbrev TGs:=List V->St->Hp->(St->Hp->Prop)->Prop
def PG(X:Cx)(target:Expr)(t:TG):Prop:=
  ∀(pins:List (aC×gc)) (s:ao) (Y:St) (H:Hp) (v:V) (u:ai) (Q:St->Hp->Prop),Inv X pins Y H s->RelV v u->t v Y H Q->
    aW (a_ X.prog X.w) X.A (mU target X.env u) (λ_ s'=>∃Y' H',Inv X pins Y' H' s'/\Q Y' H') X.xe s
def PGs(X:Cx)(ts:List Expr)(t:TGs):Prop:=
  ∀(pins:List (aC×gc)) (s:ao) (Y:St) (H:Hp) (vs:List V) (us:List ai) (Q:St->Hp->Prop),Inv X pins Y H s->Vals vs us->t vs Y H Q->
    aW (a_ X.prog X.w) X.A (assignInOrder ((ll ts X.env).map (·.2)) us) (λ_ s'=>∃Y' H',Inv X pins Y' H' s'/\Q Y' H') X.xe s
abbrev b8A:=V->V->V->Hp->(Hp->Prop)->Prop
def c1a(X:Cx)(t:b8A):Prop:=
  ∀(pins:List (aC×gc)) (s:ao) (Y:St) (H:Hp) (o i v:V) (ov iv u:ai) (Q:Hp->Prop),Inv X pins Y H s->RelV o ov->RelV i iv->RelV v u->t o i v H Q->
    aW (a_ X.prog X.w) X.A (CA ov iv u) (λ_ s'=>∃H',Inv X pins Y H' s'/\Q H') X.xe s
abbrev TIp:=V->V->Hp->VK->Prop
def PIp(X:Cx)(op:Operator)(t:TIp):Prop:=
  ∀(pins:List (aC×gc)) (s:ao) (Y:St) (H:Hp) (x y:V) (v u:ai) (Q:VK),Inv X pins Y H s->RelV x v->RelV y u->t x y H Q->
    aW (a_ X.prog X.w) X.A (inplaceOp op v u) (EP X pins Y Q) X.xe s
section
variable {X:Cx}{pos:fV}
def V0(i:Nat):TG:=λv Y H Q=>Q (Y.set i (cz v)) H
def o6(hN:X.N.Nodup)(hi:X.N[i]?=cz x)(hx:Loc X.env.scope x)(hf:autoParam (X.fn x=rp\/X.env.scope.names.lookup x=cz .local) ZZ._auto_1):PG X (.Name x pos) (V0 i):=by
  intro pins s Y H v u Q I r h;exact wpAny_assign_Name (a0w I hN hi hx r (λs' I'=>⟨_,H,I',h⟩) hf)
def b8B:TGs:=λvs Y H Q=>vs=[]/\Q Y H
def a6m(t:TG)(u:TGs):TGs:=λvs Y H Q=>∃v r,vs=v::r/\t v Y H λY' H'=>u r Y' H' Q
def a0y:PGs X [] b8B:=by
  intro pins s Y H vs us Q I r h;obtain⟨e,h⟩:=h;subst e;cases r
  exact assignInOrder_nil ⟨Y,H,I,h⟩
def A8{e:Expr}{es:List Expr}{t:TG}{u:TGs}(h1:PG X e t)(h2:PGs X es u)
    (hs:(ll (e::es) X.env).map (·.2)=mU e X.env::(ll es X.env).map (·.2):=by rfl):PGs X (e::es) (a6m t u):=by
  intro pins s Y H vs us Q I r h;obtain⟨v,vr,e1,h⟩:=h;subst e1;cases r with
  |cons r rr=>
    rw[hs];refine assignInOrder_cons (thn (h1 pins s Y H _ _ _ I r h) λ_ s1 qz=>?_);obtain⟨Y1,H1,I1,q1⟩:=qz;exact h2 pins s1 Y1 H1 _ _ Q I1 rr q1
def b8C(K:ag)(n:Nat)(t:TGs):TG:=λv Y H Q=>∃a xs,v=.ref a/\SqT K H a xs/\xs.length=n/\t xs Y H Q
def a2E(hc:X.calm=rp)(h:PGs X es t)
    (hn:(ll es X.env).length=n:=by rfl) (s_:(ll es X.env).findIdx? (·.1)=p4:=by rfl):PG X (.Tuple es k pos) (b8C X.K n t):=by
  intro pins s Y H v u Q I r hw;obtain⟨a,xs,e1,hq,hl,hw⟩:=hw;subst e1;cases r
  obtain⟨its,rv,ht,hz⟩:=I.tuple hq;refine assign_Tuple_tuple (I.ok.hd hc) ht (by simp[hn,<-hl,rv.length]) s_ λh' hx=>?_
  have I1:Inv X pins Y H {s with heap:=h'}:=I.kept (t':=s.toks) λb o e=>hx b o (bO (aY e)) e
  exact h pins _ Y H xs _ Q I1 (by simpa using rv) hw
def c2Z(to ti:TE)(t:b8A):TG:=λv Y H Q=>to Y H λo H1=>ti Y H1 λi H2=>t o i v H2 λH3=>Q Y H3
def b8D{o i:Expr}{to ti:TE}{t:b8A}(ho:PE X o to)(hi:PE X i ti)(hs:c1a X t)
    (ha:∀v,mU (.Subscript o i pos) X.env v=(do
      let ov <-lW [v] (cI o X.env)
      let iv <-lW [v,ov] (cI i X.env)
      Cz pos
      lW [v,ov,iv] (CA ov iv v)
      release [v,ov,iv] []):=by intro _;rfl):PG X (.Subscript o i pos) (c2Z to ti t):=by
  intro pins s Y H v u Q I r h;rw[ha];refine ae (cK (thn (ho pins s Y H _ I h) λov s1 qz=>?_));obtain⟨x,H1,I1,r1,q1⟩:=qz;refine ae (cK (thn (hi pins s1 Y H1 _ I1 q1) λiv s2 qz=>?_));obtain⟨y,H2,I2,r2,q2⟩:=qz;refine ae (mh (ae (cK (thn (hs pins s2 Y H2 x y v ov iv u _ I2 r1 r2 r q2) λ_ s3 qz=>?_))));obtain⟨H3,I3,q3⟩:=qz;exact wpAny_release ⟨Y,H3,I3,q3⟩
def b8E(te:TE)(g:TG):TS:=λD Y H=>te Y H λx H1=>g x Y H1 D.nx
def b8F{tg e:Expr}{te:TE}{g:TG}(he:PE X e te)(hg:PG X tg g)(hs:swapsWithSole [tg] e pos.line X.env=pure xn:=by rfl)(hw:swappedStores [tg] e X.env=pure p4:=by rfl)
    (h1:(ll [tg] X.env).map (·.2)=[mU tg X.env]:=by rfl):PS X (.Assign [tg] e pos) (b8E te g):=by
  intro pins s Y H D I h;refine wpAny_Assign_stores (thn (he pins s Y H _ I h) λv s1 qz=>?_) hs hw;obtain⟨x,H1,I1,r1,q1⟩:=qz;rw[h1];exact thn (hg pins s1 Y H1 x v _ I1 r1 q1) λ_ s2 q=>q
def a7D{i:Nat}{x:bM}{e:Expr}{te:TE}{pos':fV}(hN:X.N.Nodup)(hi:X.N[i]?=cz x)(hx:Loc X.env.scope x)(he:PE X e te)(hs:fx e (cz (.Name x pos')) pos.line X.env=pure xn:=by rfl)(hf:autoParam (X.fn x=rp\/X.env.scope.names.lookup x=cz .local) ZZ._auto_1) :
    PS X (.Assign [.Name x pos'] e pos) (b8E te (V0 i)):=by
  intro pins s Y H D I h;refine wpAny_Assign_Name (thn (he pins s Y H _ I h) λv s1 qz=>?_) hs;obtain⟨y,H1,I1,r1,q1⟩:=qz;exact a0w I1 hN hi hx r1 (λs2 I2=>⟨_,H1,I2,q1⟩) hf
def c3a(i:Nat)(te:TE)(ti:TIp):TS:=λD Y H=>∃x,Y[i]?=cz (cz x)/\te Y H λy H1=>ti x y H1 λz H2=>D.nx (Y.set i (cz z)) H2
def b8G{i:Nat}{x:bM}{e:Expr}{te:TE}{op:Operator}{ti:TIp}{pos':fV}(hN:X.N.Nodup)(hi:X.N[i]?=cz x)(hx:Loc X.env.scope x)(he:PE X e te)(ho:PIp X op ti)(hf:autoParam (X.fn x=rp\/X.env.scope.names.lookup x=cz .local) ZZ._auto_1) :
    PS X (.AugAssign (.Name x pos') op e pos) (c3a i te ti):=by
  intro pins s Y H D I h;obtain⟨v,e1,h⟩:=h;obtain⟨m,hn,hl⟩:=I.loc;have Cs:Vis X.env.scope x:=by rcases hx with k|k;exact .inl k;exact .inr (.inl k)
  obtain⟨u,r,l⟩:=hl i x v hi e1 Cs;refine wpAny_AugAssign_Name ?_;have go:aW (a_ X.prog X.w) X.A (cI e X.env) (λw s₂=>aW (a_ X.prog X.w) X.A (inplaceOp op u w) (λr s₃=>aW (a_ X.prog X.w) X.A (storeName X.env x r) (λ_=>SP X pins D .next) X.xe s₃) X.xe s₂) X.xe s:=by
    refine thn (he pins s Y H _ I h) λw s1 qz=>?_
    obtain⟨y,H1,I1,r1,q1⟩:=qz;refine thn (ho pins s1 Y H1 v y u w _ I1 r r1 q1) λz s2 qz=>?_
    obtain⟨zv,H2,I2,r2,q2⟩:=qz;exact a0w I2 hN hi hx r2 (λs3 I3=>⟨_,H2,I3,q2⟩) hf
  rcases l with⟨hk,hm⟩|⟨hk,c,hc,nr⟩
  . exact wpAny_loadName_local I.ok.kind hk hn hm go
  . rcases hk with hk|hk
    . exact wpAny_loadName_cell I.ok.kind hk hc nr go
    . rcases hx with k|k
      . have:X.env.scope.names.lookup x=cz .free:=hk
        rw[k]at this;cases this
      . have:X.env.scope.names.lookup x=cz .free:=hk
        rw[k]at this;cases this
def ipI(f:Int->Int->Int):TIp:=λx y H Q=>∃i j,x=.int i/\y=.int j/\Q (.int (f i j)) H
def b8H:PIp X .Add (ipI λi j=>i+j):=by
  intro pins s Y H x y v u Q I r1 r2 h;obtain⟨i,j,e1,e2,q⟩:=h;subst e1;subst e2;obtain⟨t,rfl⟩:=r1;obtain⟨t',rfl⟩:=r2;exact iadd_int ⟨.int _,H,I.tok _,⟨_,rfl⟩,q⟩
def b8I(c:TT)(tb:TS):TS:=λD Y H=>∃W:Nat->St->Hp->Prop,(∃m,W m Y H)/\∀m Y H,W m Y H->
  c Y H λb H1=>if b=rp then ∃N:St->Hp->Prop,(∀Y' H',N Y' H'->∃m',m'<m/\W m' Y' H')/\tb {D with nx:=N,ct:=N,bk:=D.nx} Y H1 else D.nx Y H1
def b2n{c:Expr}{body:List iO}{tc:TT}{tb:TS}(hp:oQ (a_ X.prog X.w) X.A X.env X.xe)(hc:PT X c tc)(hb:PSs X body tb):PS X (.While c body [] pos) (b8I tc tb):=by
  intro pins s Y H D I h;obtain⟨W,⟨m0,w0⟩,turn⟩:=h;refine wpAny_While (codeAny_whileLoop (λn s'=>∃Y' H',Inv X pins Y' H' s'/\W n Y' H') ?_ m0 ⟨Y,H,I,w0⟩);rintro n s1 ⟨Y1,H1,I1,w1⟩;refine gJ hp (thn (hc pins s1 Y1 H1 _ I1 (turn n Y1 H1 w1)) λb s2 qz=>?_);obtain⟨H2,I2,q2⟩:=qz;cases b with
  |true=>
    obtain⟨N,hN,q2⟩:=q2;rw[aE rfl];refine gJ hp (thn (hb pins s2 Y1 H2 _ I2 q2) λf s3 q3=>?_);cases f with
    |next=>
      obtain⟨Y3,H3,I3,n3⟩:=q3;obtain⟨m',hm,w3⟩:=hN Y3 H3 n3;exact⟨m',hm,Y3,H3,I3,w3⟩
    |cont=>
      obtain⟨Y3,H3,I3,n3⟩:=q3;obtain⟨m',hm,w3⟩:=hN Y3 H3 n3;exact⟨m',hm,Y3,H3,I3,w3⟩
    |brk=>exact q3
    |ret v=>exact q3
  |false=>
    rw[aM cu];exact nh ⟨Y1,H2,I2,q2⟩
end
structure It where
  go:Nat->Hp->Prop
  yld:Nat->Hp->V->Hp->Prop
  stop:Nat->Hp->Prop
def a3S(X:Cx)(pins:List (aC×gc))(H:Hp)(b:aC):Prop:=
  H b=p4/\b≠X.env.locals/\b∉X.fs/\(b∈X.ex\/X.s₀.heap.objs.size<=b)/\(∀x c,X.env.cells.lookup x=cz c->c≠b)/\∀p∈X.pn++pins,p.1≠b
def Inv.fpOk(I:Inv X pins Y H s)(hb:s.heap.objs.size<=b)(hn:H' b=p4):a3S X pins H' b:=by
  refine⟨hn,iA (bx I.lt hb),I.nofs hb,.inr (cC I.sz hb),λx c e z=>?_,λp hp z=>?_⟩
  . obtain⟨v,q⟩:=I.cell x c e
    exact absurd (bx q.lt (by rw[z];exact hb)) (dS _)
  . exact absurd (bx (aY (I.pin p hp).1) (by rw[z];exact hb)) (dS _)
structure Turn (P:bA) (w:bQ) (K:ag) (tg:Expr) (J:It) (fp:List aC) (it:aC) (tn:Nat->cM->Prop):Prop where
  mem:it∈fp
  obj:∀i h,tn i h->∀b∈fp,∃o,h.get? b=cz o/\∀v,o.data≠.cell v
  keep:∀i h h',tn i h->(∀b∈fp,∀o,h.get? b=cz o->h'.get? b=cz o)->tn i h'
  item:∀(X:Cx),X.prog=P->X.w=w->X.K=K->X.calm=rp->∀(i:Nat) (pins:List (aC×gc)) (s:ao) (Y:St) (H:Hp) (E:ai->ao->Prop),Inv X pins Y H s->(∀b∈fp,a3S X pins H b)->tn i s.heap->J.go i H->
    aW (a_ P w) X.A (qf (.ref it)) (λr s1=>∃u,r=cz u/\
      aW (a_ P w) X.A (ni tg (.ref it) u) (λ_ s2=>∃x H',Inv X pins Y H' s2/\RelV x u/\J.yld i H x H'/\tn (i+1) s2.heap/\∀b∈fp,H' b=p4) E s1) E s
  done:∀(X:Cx),X.prog=P->X.w=w->X.K=K->X.calm=rp->∀(i:Nat) (pins:List (aC×gc)) (s:ao) (Y:St) (H:Hp) (E:ai->ao->Prop),Inv X pins Y H s->(∀b∈fp,a3S X pins H b)->tn i s.heap->J.stop i H->
    aW (a_ P w) X.A (qf (.ref it)) (λr s1=>r=p4/\Inv X pins Y H s1) E s
  self:∀(A:bN) (i:Nat) (s:ao) (Q:ai->ao->Prop) (E:ai->ao->Prop),tn i s.heap->Q (.ref it) s->aW (a_ P w) A (CI (.ref it)) Q E s
abbrev TI:=St->Hp->(It->Hp->Prop)->Prop
def PIE(X:Cx)(pins:List (aC×gc))(Y:St)(tg:Expr)(R:It->Hp->Prop)(zd:ai)(s2:ao):Prop:=
  ∃(it:aC) (fp:List aC) (tn:Nat->cM->Prop) (J:It) (H':Hp),zd=.ref it/\Inv X pins Y H' s2/\Turn X.prog X.w X.K tg J fp it tn/\tn 0 s2.heap/\(∀b∈fp,a3S X pins H' b)/\R J H'
def PI(X:Cx)(tg iter:Expr)(wi:TI):Prop:=
  ∀(pins:List (aC×gc)) (s:ao) (Y:St) (H:Hp) (R:It->Hp->Prop),Inv X pins Y H s->wi Y H R->
    aW (a_ X.prog X.w) X.A (cI iter X.env) (λv s1=>aW (a_ X.prog X.w) X.A (CI v) (PIE X pins Y tg R) X.xe s1) X.xe s
def b2o{s:ao}(ho:s.heap.get? it=cz o)(hc:o.cls=.type n)(hd:o.data=.fields vs)
    (hn:["enumerate","zip","dict_itemiterator","dict_reverseitemiterator","odict_iterator","itertools.zip_longest","itertools.pairwise"].contains n=xn) (hQ:Q () s):aW M A (ni tg (.ref it) u) Q E s:=by
  unfold ni;cases tg<;>first
    |exact aA hQ
    | (cases u<;>first
        |exact aA hQ
        | (refine ae (wpAny_load ho ?_)
           rw[hc,hd];show aW M A (if (["enumerate","zip","dict_itemiterator","dict_reverseitemiterator","odict_iterator","itertools.zip_longest","itertools.pairwise"].contains n&&vs[0]?==cz (jK _))=rp then _ else _) Q E s;rw[aM (by intro h;rw[hn,Bool.false_and]at h;cases h)];exact aA hQ))
def Itl(K:ag)(a:aC):It:=
  ⟨λi H=>∃xs x,SqL K H a xs/\xs[i]?=cz x,λi H x H'=>H'=H/\∀xs,SqL K H a xs->xs[i]?=cz x,λi H=>∃xs,SqL K H a xs/\xs.length<=i⟩
def Itr(lo:Int)(n:Nat):It:=⟨λi _=>i<n,λi H x H'=>H'=H/\x=.int (lo+i),λi _=>n<=i⟩
def b0w{P:bA}{w:bQ}{K:ag}{tg:Expr}(a it:aC):Turn P w K tg (Itl K a) [it] it (λi h=>h.IsListIter it a i) where
  mem:=by simp
  obj:=λi h st b hb=>by
    have e:b=it:=by simpa using hb
    subst e;obtain⟨o,e,c,d⟩:=st;exact⟨o,e,λv z=>by rw[d]at z;cases z⟩
  keep:=λi h h' st k=>st.at λo e=>k it (by simp) o e
  item:=by
    intro X hP hw hK hc i pins s Y H E I hf st hg;subst hP hw hK;obtain⟨xs,x,hq,hx⟩:=hg;obtain⟨its,rv,p,hz⟩:=I.list hq;obtain⟨u,hu,ru⟩:=rv.get hx;obtain⟨f0,f1,f2,f3,f4,f5⟩:=hf it (by simp);refine wpAny_pyNext_list_item st p.isList (x:=u) (by simpa using hu) λh' cQ sb=>?_
    have I1:Inv X pins Y H {s with heap:=h'}:=I.turned (t':=s.toks) (λb o hb e=>(sb.2 b hb).trans e) f0 f1 f3 f4 f5;obtain⟨o,e,c,d⟩:=id cQ;exact⟨u,rfl,b2o (s:={s with heap:=h'}) e c d (by decide) ⟨x,H,I1,ru,⟨rfl,λys hy=>by rw[I.list_inj hy hq];exact hx⟩,cQ,λb hb=>(hf b hb).1⟩⟩
  done:=by
    intro X hP hw hK hc i pins s Y H E I hf st hg;subst hP hw hK;obtain⟨xs,hq,hx⟩:=hg;obtain⟨its,rv,p,hz⟩:=I.list hq;obtain⟨f0,f1,f2,f3,f4,f5⟩:=hf it (by simp);have hl:=rv.length;exact wpAny_pyNext_list_end (I.ok.hd hc) st p.isList (by simp;omega) λh' eb=>⟨rfl,I.turned (t':=s.toks) (λb o hb e=>eb b o hb e) f0 f1 f3 f4 f5⟩
  self:=λ_ _ _ _ _ st h=>wpAny_pyIter_listiter st h
def a7E{P:bA}{w:bQ}{K:ag}{tg:Expr}(it:aC)(lo:Int)(n:Nat):Turn P w K tg (Itr lo n) [it] it (λi h=>IsRangeIter h it (lo+(i:Nat)*1) ((n:Int)-(i:Nat)) 1) where
  mem:=by simp
  obj:=λi h st b hb=>by
    have e:b=it:=by simpa using hb
    subst e;exact⟨_,st,λv z=>by
      have z':Data.fields _=Data.cell v:=z;cases z'⟩
  keep:=λi h h' st k=>k it (by simp) _ st
  item:=by
    intro X hP hw hK hc i pins s Y H E I hf st hg;subst hP hw hK;obtain⟨f0,f1,f2,f3,f4,f5⟩:=hf it (by simp);have W:=Walks.range (prog:=X.prog) (w:=X.w) (I.ok.hd hc) it lo 1 n;refine W.item i s _ _ hg st λv h' tk hv cQ kk=>?_
    obtain⟨t,rfl⟩:=hv;have I1:Inv X pins Y H {s with heap:=h',toks:=tk}:=I.turned (λb o hb e=>kk b o (by simpa using hb) e) f0 f1 f3 f4 f5;refine⟨_,rfl,b2o (s:={s with heap:=h',toks:=tk}) (n:="range_iterator") cQ rfl rfl (by decide) ⟨.int (lo+i),H,I1,⟨t,?_⟩,⟨rfl,rfl⟩,cQ,λb hb=>(hf b hb).1⟩⟩;rw[Int.mul_one]
  done:=by
    intro X hP hw hK hc i pins s Y H E I hf st hg;subst hP hw hK;obtain⟨f0,f1,f2,f3,f4,f5⟩:=hf it (by simp);exact wpAny_pyNext_range_end (I.ok.hd hc) st (by have:n<=i:=hg;omega) λh' eb=>⟨rfl,I.turned (t':=s.toks) (λb o hb e=>eb b o hb e) f0 f1 f3 f4 f5⟩
  self:=λ_ _ _ _ _ st h=>wpAny_pyIter_rangeiter st h
section
variable {X:Cx}{tg:Expr}
def c1b(K:ag)(tl:TE):TI:=λY H R=>tl Y H λx H1=>∃a,x=.ref a/\(∃xs,SqL K H1 a xs)/\R (Itl K a) H1
def b5A{l:Expr}{tl:TE}(hl:PE X l tl):PI X tg l (c1b X.K tl):=by
  intro pins s Y H R I h;refine thn (hl pins s Y H _ I h) λv s1 qz=>?_
  obtain⟨x,H1,I1,r1,q1⟩:=qz;obtain⟨a,e,⟨xs,hq⟩,q⟩:=q1;subst e;cases r1
  obtain⟨its,rv,p,hz⟩:=I1.list hq;refine wpAny_pyIter_list p.isList ?_;refine⟨s1.heap.objs.size,[s1.heap.objs.size],_,_,H1,rfl,I1.kept (t':=s1.toks) λb o e=>aO _ e,b0w a _,⟨_,bz _ rfl,rfl,rfl⟩,λb hb=>?_,q⟩;have e:b=s1.heap.objs.size:=by simpa using hb
  subst e;exact I1.fpOk (az _) (I1.hok.fresh (az _))
def b2p{pins:List (aC×gc)}{Y:St}{H:Hp}{s:ao}{R:It->Hp->Prop}{E:ai->ao->Prop}{lo hi:Int}{t u v:Tok}{tk:Nat}(I:Inv X pins Y H s)(h1:-(2^62)<=lo)(h2:lo<2^62)(h3:-(2^62)<=hi)(h4:hi<2^62)
    (q:R (Itr lo (hi-lo).toNat) H):aW (a_ X.prog X.w) X.A (CI (.ref s.heap.objs.size)) (PIE X pins Y tg R) E {s with heap:=s.heap.push {cls:=.type "range",data:=.fields #[.int lo t,.int hi u,.int 1 v]},toks:=tk}:=by
  refine wpAny_pyIter_range (IsRange.new ..) (small_one h1 h2 h3 h4) ?_;have I1:Inv X pins Y H {s with heap:=s.heap.push {cls:=.type "range",data:=.fields #[.int lo t,.int hi u,.int 1 v]},toks:=tk}:=I.kept λb o e=>aO _ e
  refine⟨(s.heap.push {cls:=.type "range",data:=.fields #[.int lo t,.int hi u,.int 1 v]}).objs.size,[(s.heap.push {cls:=.type "range",data:=.fields #[.int lo t,.int hi u,.int 1 v]}).objs.size],_,_,H,rfl,
    I1.kept (t':=tk) λb o e=>aO _ e,a7E _ lo (hi-lo).toNat,?_,λb hb=>?_,q⟩
  . have e1:lo+((0:Nat):Int)*1=lo:=by simp
    have e2:(((hi-lo).toNat:Nat):Int)-((0:Nat):Int)=Builtin.Range.rangeSize lo hi 1:=by rw[rangeSize_one];split<;>omega
    show IsRangeIter _ _ (lo+((0:Nat):Int)*1) ((((hi-lo).toNat:Nat):Int)-((0:Nat):Int)) 1;rw[e1,e2];exact bz _ rfl
  . have e:b=(s.heap.push {cls:=.type "range",data:=.fields #[.int lo t,.int hi u,.int 1 v]}).objs.size:=by simpa using hb
    subst e;exact I1.fpOk (az _) (I1.hok.fresh (az _))
def c1c(ta:TA):TI:=λY H R=>ta Y H λvs H1=>∃j:Int,vs=[.int j]/\-(2^62)<=j/\j<2^62/\R (Itr 0 j.toNat) H1
def b0x{a:Expr}{ta:TA}{p pos:fV}(hg:Gl X "range")(hm:X.mg "range"=p4)(ha:PA X [a] ta)(hs:au [a] X.env=[(xn,cI a X.env)]:=by rfl):PI X tg (.Call (.Name "range" p) [a] [] pos) (c1c ta):=by
  intro pins s Y H R I h;refine Call_ (a0g I hg hm boot_range (gE (thn (ha pos pins s Y H _ I h) λus s1 qz=>?_) hs rfl));obtain⟨vs,H1,I1,r1,q1⟩:=qz;obtain⟨j,e,q1,q2,q⟩:=q1;subst e;cases r1 with
  |cons r rr=>
    cases rr
    obtain⟨t,rfl⟩:=r;exact call_range_1 (b2p I1 (by omega) (by omega) q1 q2 (by simpa using q))
def c3b(wi:TI)(g:TG)(tb:TS):TS:=λD Y H=>wi Y H λJ H1=>∃W:Nat->Nat->St->Hp->Prop,(∃m,W 0 m Y H1)/\∀i m Y H,W i m Y H->
  (J.stop i H/\D.nx Y H)\/(J.go i H/\∃N:St->Hp->Prop,(∀Y' H',N Y' H'->∃m',m'<m/\W (i+1) m' Y' H')/\∀x H',J.yld i H x H'->g x Y H' λY2 H2=>tb {D with nx:=N,ct:=N,bk:=D.nx} Y2 H2)
def a5d(fp:List aC)(h:cM):List (aC×gc):=fp.filterMap λb=>(h.get? b).map λo=>(b,o)
def C1{h:cM}(hb:b∈fp)(e:h.get? b=cz o):(b,o)∈a5d fp h:=dM.mpr ⟨b,hb,by rw[e];rfl⟩
def b0y(hp:p∈a5d fp h):p.1∈fp/\h.get? p.1=cz p.2:=by
  obtain⟨b,hb,e⟩:=dM.mp hp;cases q:h.get? b with
  |none=>rw[q]at e;cases e
  |some o=>
    rw[q]at e;have e':(b,o)=p:=aF e;subst e';exact⟨hb,q⟩
def Inv.pinned(I:Inv X pins Y H s)(hf:∀b∈fp,a3S X pins H b)(ho:∀b∈fp,∃o,s.heap.get? b=cz o/\∀v,o.data≠.cell v):Inv X (pins++a5d fp s.heap) Y H s:=
  I.pins_of λp hp=>(ay.mp hp).elim (λz=>I.pin p (aj _ z)) λz=>by
    obtain⟨hb,e⟩:=b0y z;obtain⟨f0,f1,f2,_⟩:=hf p.1 hb;obtain⟨o,e',d⟩:=ho p.1 hb;rw[e]at e';cases e';exact⟨e,f0,f1,f2,d⟩
def Inv.unpinned(I:Inv X (pins++pl) Y H s):Inv X pins Y H s:=I.pins_of λp hp=>I.pin p (aj _ (ak _ hp))
def a7F(hp:oQ (a_ X.prog X.w) X.A X.env X.xe)(hc:X.calm=rp)(hi:PI X tg iter wi)(hg:PG X tg g)(hb:PSs X body tb)
    (hs:∀x,fy iter X.env x=pure x:=by intro _;rfl):PS X (.For tg iter body [] pos) (c3b wi g tb):=by
  intro pins s Y H D I h;refine wpAny_For (thn (hi pins s Y H _ I h) λv s1 h1=>thn h1 λzd s2 h2=>?_) hs;obtain⟨it,fp,tn,J,H2,e,I2,T,lR,f2,W,⟨m0,w0⟩,turn⟩:=h2;subst e;have oV:∀{H':Hp},(∀b∈fp,H' b=p4)->∀b∈fp,a3S X pins H' b:=λhn b hb=>⟨hn b hb,(f2 b hb).2⟩
  refine codeAny_forLoop_any (λn s'=>∃i Y' H',Inv X pins Y' H' s'/\tn i s'.heap/\(∀b∈fp,H' b=p4)/\W i n Y' H') ?_ m0 ⟨0,Y,H2,I2,lR,λb hb=>(f2 b hb).1,w0⟩;rintro n s3 ⟨i,Y3,H3,I3,jJ,xE,w3⟩;rcases turn i n Y3 H3 w3 with⟨stop,qn⟩|⟨go,N,hN,step⟩
  . refine gJ hp (thn (T.done X rfl rfl rfl hc i pins s3 Y3 H3 X.xe I3 (oV xE) jJ stop) λr s4 ⟨hr,I4⟩=>?_)
    subst hr;exact nh ⟨Y3,H3,I4,qn⟩
  . refine gJ hp (thn (T.item X rfl rfl rfl hc i pins s3 Y3 H3 X.xe I3 (oV xE) jJ go) λr s4 qz=>?_)
    obtain⟨u,hr,h4⟩:=qz;subst hr;refine gJ hp (thn h4 λ_ s5 qz=>?_);obtain⟨x,H5,I5,r5,y5,qS,Ar⟩:=qz;have AK:=I5.pinned (oV Ar) (T.obj _ _ qS);refine gJ hp (thn (hg _ s5 Y3 H5 x u _ AK r5 (step x H5 y5)) λ_ s6 qz=>?_);obtain⟨Y6,H6,I6,q6⟩:=qz;refine gJ hp (thn (hb _ s6 Y6 H6 _ I6 q6) λf s7 q7=>?_);have again:∀{Y7:St} {H7:Hp},Inv X (pins++a5d fp s5.heap) Y7 H7 s7->N Y7 H7->∃m,m<n/\∃i Y' H',Inv X pins Y' H' s7/\tn i s7.heap/\(∀b∈fp,H' b=p4)/\W i m Y' H':=λ{Y7 H7} I7 n7=>by
      obtain⟨m',hm,w7⟩:=hN Y7 H7 n7;refine⟨m',hm,i+1,Y7,H7,I7.unpinned,T.keep _ _ _ qS λb hb o e=>(I7.pin (b,o) (aj _ (aj _ (C1 hb e)))).1,λb hb=>?_,w7⟩;obtain⟨o,e,d⟩:=T.obj _ _ qS b hb;exact (I7.pin (b,o) (aj _ (aj _ (C1 hb e)))).2.1
    cases f with
    |next=>obtain⟨Y7,H7,I7,n7⟩:=q7;exact again I7 n7
    |cont=>obtain⟨Y7,H7,I7,n7⟩:=q7;exact again I7 n7
    |brk=>obtain⟨Y7,H7,I7,q7⟩:=q7;exact⟨Y7,H7,I7.unpinned,q7⟩
    |ret v=>obtain⟨x7,Y7,H7,I7,r7,q7⟩:=q7;exact⟨x7,Y7,H7,I7.unpinned,r7,q7⟩
end
abbrev R2:=V->V->Hp->VK->Prop
def OpR(X:Cx)(f:ai->ai->AE ai)(r:R2):Prop:=
  ∀(pins:List (aC×gc)) (s:ao) (Y:St) (H:Hp) (x y:V) (v u:ai) (Q:VK),Inv X pins Y H s->RelV x v->RelV y u->r x y H Q->
    aW (a_ X.prog X.w) X.A (f v u) (EP X pins Y Q) X.xe s
def UnR(X:Cx)(f:ai->AE ai)(r:V->Hp->VK->Prop):Prop:=
  ∀(pins:List (aC×gc)) (s:ao) (Y:St) (H:Hp) (x:V) (v:ai) (Q:VK),Inv X pins Y H s->RelV x v->r x H Q->
    aW (a_ X.prog X.w) X.A (f v) (EP X pins Y Q) X.xe s
def CallR(X:Cx)(f:ai)(r:List V->Hp->VK->Prop):Prop:=
  ∀(pins:List (aC×gc)) (s:ao) (Y:St) (H:Hp) (xs:List V) (us:List ai) (Q:VK),Inv X pins Y H s->Vals xs us->r xs H Q->
    aW (a_ X.prog X.w) X.A (call f us) (EP X pins Y Q) X.xe s
def c3c(X:Cx)(r:V->Hp->(Bool->Hp->Prop)->Prop):Prop:=
  ∀(pins:List (aC×gc)) (s:ao) (Y:St) (H:Hp) (x:V) (v:ai) (Q:Bool->Hp->Prop),Inv X pins Y H s->RelV x v->r x H Q->
    aW (a_ X.prog X.w) X.A (truthy v) (TP X pins Y Q) X.xe s
def tOp(r:R2)(ta tb:TE):TE:=λY H Q=>ta Y H λx H1=>tb Y H1 λy H2=>r x y H2 Q
def tUn(r:V->Hp->VK->Prop)(ta:TE):TE:=λY H Q=>ta Y H λx H1=>r x H1 Q
def rI(C:Int->Int->Prop)(g:Int->Int->V):R2:=λx y H Q=>∃i j,x=.int i/\y=.int j/\C i j/\Q (g i j) H
def rI0(g:Int->Int->V):R2:=λx y H Q=>∃i j,x=.int i/\y=.int j/\Q (g i j) H
def rU(g:Int->V):V->Hp->VK->Prop:=λx H Q=>∃i,x=.int i/\Q (g i) H
section
variable {X:Cx}{a b c:Expr}{ta tb tc:TE}{pos:fV}
def b8J(ha:PE X a ta)(hb:PE X b tb){pins:List (aC×gc)}{s:ao}{Y:St}{H:Hp}{R:V->V->Hp->Prop}(I:Inv X pins Y H s)
    (h:ta Y H λx H1=>tb Y H1 λy H2=>R x y H2) {Q:ai->ao->Prop} {f:ai->ai->AE ai}
    (hf:∀v u s2 x y H2,Inv X pins Y H2 s2->RelV x v->RelV y u->R x y H2->aW (a_ X.prog X.w) X.A (f v u) Q X.xe s2) :
    aW (a_ X.prog X.w) X.A (cI a X.env) (λv s₁=>aW (a_ X.prog X.w) X.A (cI b X.env) (λu s₂=>aW (a_ X.prog X.w) X.A (f v u) Q X.xe s₂) X.xe s₁) X.xe s:=by
  refine thn (ha pins s Y H _ I h) λv s1 qz=>?_
  obtain⟨x,H1,I1,r1,q1⟩:=qz;refine thn (hb pins s1 Y H1 _ I1 q1) λu s2 qz=>?_
  obtain⟨y,H2,I2,r2,q2⟩:=qz;exact hf v u s2 x y H2 I2 r1 r2 q2
def b7U{op:Operator}{r:R2}(ho:OpR X (gn op) r)(ha:PE X a ta)(hb:PE X b tb):PE X (.BinOp a op b pos) (tOp r ta tb):=by
  intro pins s Y H Q I h;exact wpAny_BinOp (b8J ha hb I h λv u s2 x y H2 I2 rx ry q=>ho pins s2 Y H2 x y v u Q I2 rx ry q)
def c1d(ho:UnR X (unaryOp op) r)(ha:PE X a ta):PE X (.UnaryOp op a pos) (tUn r ta):=by
  intro pins s Y H Q I h;exact UnaryOp_ (thn (ha pins s Y H _ I h) λv s1 ⟨x,H1,I1,r1,q1⟩=>ho pins s1 Y H1 x v Q I1 r1 q1)
def opI{f:ai->ai->AE ai}{C:Int->Int->Prop}{g:Int->Int->Int}
    (rule:∀(i j:Int) (t u:Tok) (s:ao) (Q:ai->ao->Prop) (E:ai->ao->Prop),C i j->Q (.int (g i j) s.toks) {s with toks:=s.toks+1}->aW (a_ X.prog X.w) X.A (f (.int i t) (.int j u)) Q E s) :
    OpR X f (rI C λi j=>.int (g i j)):=by
  intro pins s Y H x y v u Q I rx ry h;obtain⟨i,j,rfl,rfl,hc,q⟩:=h;obtain⟨t,rfl⟩:=rx;obtain⟨t',rfl⟩:=ry;exact rule i j t t' s _ _ hc ⟨.int (g i j),H,I.tok _,⟨_,rfl⟩,q⟩
def c1e{f:ai->ai->AE ai}{g:Int->Int->Int}
    (rule:∀(i j:Int) (t u:Tok) (s:ao) (Q:ai->ao->Prop) (E:ai->ao->Prop),Q (.int (g i j) s.toks) {s with toks:=s.toks+1}->aW (a_ X.prog X.w) X.A (f (.int i t) (.int j u)) Q E s) :
    OpR X f (rI0 λi j=>.int (g i j)):=by
  intro pins s Y H x y v u Q I rx ry h;obtain⟨i,j,rfl,rfl,q⟩:=h;obtain⟨t,rfl⟩:=rx;obtain⟨t',rfl⟩:=ry;exact rule i j t t' s _ _ ⟨.int (g i j),H,I.tok _,⟨_,rfl⟩,q⟩
def b5B{f:ai->ai->AE ai}{g:Int->Int->Bool}
    (rule:∀(i j:Int) (t u:Tok) (s:ao) (Q:ai->ao->Prop) (E:ai->ao->Prop),Q (.bool (g i j)) s->aW (a_ X.prog X.w) X.A (f (.int i t) (.int j u)) Q E s) :
    OpR X f (rI0 λi j=>.bl (g i j)):=by
  intro pins s Y H x y v u Q I rx ry h;obtain⟨i,j,rfl,rfl,q⟩:=h;obtain⟨t,rfl⟩:=rx;obtain⟨t',rfl⟩:=ry;exact rule i j t t' s _ _ ⟨.bl (g i j),H,I,rfl,q⟩
def c3d(i j:Int):Prop:=0<j/\j<1073741824
def c3e(i j:Int):Prop:=0<=j/\j<=1000000/\i.natAbs<2^64
def CMul(i j:Int):Prop:=(-(2^64)<i/\i<2^64)\/(-(2^64)<j/\j<2^64)
def CMul.ok{i j:Int}(h:CMul i j):IntMulOk i j:=by
  rcases h with⟨h1,h2⟩|⟨h1,h2⟩
  . exact .of_left (intBits_le_64 h1 h2)
  . exact .of_right (intBits_le_64 h1 h2)
def b8K:OpR X (gn .Add) (rI0 λi j=>.int (i+j)):=c1e λ_ _ _ _ _ _ _ q=>add_int q
def b8L:OpR X (gn .Sub) (rI0 λi j=>.int (i-j)):=c1e λ_ _ _ _ _ _ _ q=>sub_int q
def b8M:OpR X (gn .Mult) (rI CMul λi j=>.int (i*j)):=opI λ_ _ _ _ _ _ _ hc q=>mul_int q hc.ok
def b5C:OpR X (gn .FloorDiv) (rI c3d λi j=>.int (i / j)):=opI λi j _ _ _ _ _ hc q=>by
  have h1:(0:Int)<j:=hc.1;have h2:j<1073741824:=hc.2;exact floordiv_int (by omega) (by rw[Int.fdiv_eq_ediv_of_nonneg i (by omega)];exact q) (.inl (PyProof.noPylong_small (by omega)))
def b8N:OpR X (gn .Mod) (rI (λ_ j=>0<j) λi j=>.int (i % j)):=opI λi j _ _ _ _ _ hc q=>by
  have h1:(0:Int)<j:=hc;exact mod_int' (by omega) (by rw[Int.fmod_eq_emod_of_nonneg i (by omega)];exact q)
def b8O:OpR X (gn .Pow) (rI c3e λi j=>.int (i^j.toNat)):=opI λ_ _ _ _ _ _ _ hc q=>pow_int_small hc.1 hc.2.1 hc.2.2 q
def unI{f:ai->AE ai}{g:Int->Int}
    (rule:∀(i:Int) (t:Tok) (s:ao) (Q:ai->ao->Prop) (E:ai->ao->Prop),Q (.int (g i) s.toks) {s with toks:=s.toks+1}->aW (a_ X.prog X.w) X.A (f (.int i t)) Q E s) :
    UnR X f (rU λi=>.int (g i)):=by
  intro pins s Y H x v Q I rx h;obtain⟨i,rfl,q⟩:=h;obtain⟨t,rfl⟩:=rx;exact rule i t s _ _ ⟨.int (g i),H,I.tok _,⟨_,rfl⟩,q⟩
def b8P:UnR X (unaryOp .USub) (rU λi=>.int (-i)):=unI λ_ _ _ _ _ q=>neg_int q
end
def scal:V->V->Bool
  |.non,.non=>rp|.non,.int _=>rp|.int _,.non=>rp|.non,.bl _=>rp|.bl _,.non=>rp|.non,.str _=>rp|.str _,.non=>rp
  |.int _,.int _=>rp|.bl _,.bl _=>rp|.str _,.str _=>rp|.byt _,.byt _=>rp
  |.int _,.str _=>rp|.str _,.int _=>rp|.bl _,.str _=>rp|.str _,.bl _=>rp
  |_,_=>xn
section
variable {X:Cx}{a b c:Expr}{ta tb tc:TE}{pos:fV}
def b8Q(I:Inv X pins Y H s)(q:Q (.bl k) H)(e:k=k'):EP X pins Y Q (.bool k') s:=by
  subst e;exact⟨.bl k,H,I,rfl,q⟩
def c1f:OpR X (cR .Lt) (rI0 λi j=>.bl (decide (i<j))):=b5B λ_ _ _ _ _ _ _ q=>lt_int q
def c1g:OpR X (cR .LtE) (rI0 λi j=>.bl (decide (i<=j))):=b5B λ_ _ _ _ _ _ _ q=>le_int q
def c1h:OpR X (cR .Gt) (rI0 λi j=>.bl (decide (j<i))):=b5B λ_ _ _ _ _ _ _ q=>gt_int q
def c1i:OpR X (cR .GtE) (rI0 λi j=>.bl (decide (j<=i))):=b5B λ_ _ _ _ _ _ _ q=>ge_int q
def b5D:OpR X (cR .IsNot) (λx y H Q=>y=.non/\Q (.bl (!decide (x=.non))) H):=by
  intro pins s Y H x y v u Q I rx ry h;obtain⟨rfl,q⟩:=h;cases ry
  refine isnot_none_gen (b8Q I q ?_);cases x<;>first
    | (cases rx;rfl)
    | (obtain⟨t,rfl⟩:=rx;rfl)
def a7G(b:Expr)(h:op≠.In:=by decide)(h2:op≠.NotIn:=by decide):ix op b=xn:=by
  have e1:(op==CmpOp.In)=xn:=by cases op<;>first|rfl|exact absurd rfl h
  have e2:(op==CmpOp.NotIn)=xn:=by cases op<;>first|rfl|exact absurd rfl h2
  cases b<;>simp[ix,e1,e2]
def b5E{op:CmpOp}{r:R2}(ho:OpR X (cR op) r)(ha:PE X a ta)(hb:PE X b tb)(hm:ix op b=xn):PE X (.Compare a [op] [b] pos) (tOp r ta tb):=by
  intro pins s Y H Q I h;exact wpAny_Compare1 (b8J ha hb I h λv u s2 x y H2 I2 rx ry q=>ho pins s2 Y H2 x y v u Q I2 rx ry q) hm
def b7V(t:TE):TT:=λY H Q=>t Y H λx H'=>∃k,x=.bl k/\Q k H'
def a9n(ho:OpR X (cR op) r)(ha:PE X a ta)(hb:PE X b tb)(hm:ix op b=xn):PT X (.Compare a [op] [b] pos) (b7V (tOp r ta tb)):=by
  intro pins s Y H Q I h;refine wpAny_isTrue_Compare1 (thn (ha pins s Y H _ I h) λv s1 ⟨x,H1,I1,r1,q1⟩=>thn (hb pins s1 Y H1 _ I1 q1) λu s2 ⟨y,H2,I2,r2,q2⟩=>
    thn (ho pins s2 Y H2 x y v u _ I2 r1 r2 q2) λc s3 ⟨z,H3,I3,r3,k,e,q3⟩=>?_) hm
  subst e;cases r3
  exact fw ⟨H3,I3,q3⟩
def b8R(r r':R2)(ta tb tc:TE):TE:=λY H Q=>ta Y H λx H1=>tb Y H1 λy H2=>r x y H2 λz H3=>∃k,z=.bl k/\
  (if k=rp then tc Y H3 λw' H4=>r' y w' H4 Q else Q (.bl xn) H3)
def b2q(ho:OpR X (cR op) r)(oO:OpR X (cR u_) r')(ha:PE X a ta)(hb:PE X b tb)(hc:PE X c tc)
    (hm:lastMarks [op,u_] [b,c]=xn:=by with_unfolding_all rfl):PT X (.Compare a [op,u_] [b,c] pos) (b7V (b8R r r' ta tb tc)):=by
  intro pins s Y H Q I h;refine isTrue_chain (thn (ha pins s Y H _ I h) λv s1 ⟨x,H1,I1,r1,q1⟩=>test_link (thn (hb pins s1 Y H1 _ I1 q1) λu s2 ⟨y,H2,I2,r2,q2⟩=>
    thn (ho pins s2 Y H2 x y v u _ I2 r1 r2 q2) λd s3 ⟨z,H3,I3,r3,k,e,q3⟩=>?_)) hm
  subst e;cases r3
  refine fw ?_;cases k with
  |false=>
    obtain⟨k',e',q'⟩:=q3;cases e'
    exact ite_ff ⟨H3,I3,q'⟩
  |true=>
    refine ite_tt (test_last (thn (hc pins s3 Y H3 _ I3 q3) λw' s4 ⟨z',H4,I4,r4,q4⟩=>thn (oO pins s4 Y H4 y z' u w' _ I4 r2 r4 q4) λd' s5 qz=>?_));obtain⟨z2,H5,I5,r5,k2,e2,q5⟩:=qz;subst e2;cases r5
    exact fw ⟨H5,I5,q5⟩
def b5F(K:ag)(x:V)(H:Hp)(k:Bool):Prop:=
  match x with
  |.non=>k=xn
  |.bl b=>k=b
  |.int i=>k=(i !=0)
  |.str y=>y.length<=br/\k=((y.length:Int)!=0)
  |.byt y=>y.size<=br/\k=((y.size:Int)!=0)
  |.ref p=>(∃xs,SqL K H p xs/\k=!xs.isEmpty)\/(∃xs,SqT K H p xs/\k=!xs.isEmpty)\/∃kvs,H p=cz (.dK kvs)/\k=!kvs.isEmpty
  |_=>False
def a7H{κ:Type}{kvs:List (κ×V)}{vs:List (κ×ai)}(r:KV kvs vs):(!vs.isEmpty)=!kvs.isEmpty:=by
  cases r<;>rfl
def a2F{xs:List V}{its:List ai}(r:Vals xs its):(!its.toArray.isEmpty)=!xs.isEmpty:=by
  cases r<;>simp
def a1g:(br:Nat)<2^63:=by rw[dB];decide
def b2r:c3c X (λx H Q=>∃k,b5F X.K x H k/\Q k H):=by
  intro pins s Y H x v Q I rx h;obtain⟨k,e,q⟩:=h;have hl:=a1g;have hs:br=16777216:=dB;cases x with
  |non=>
    cases rx
    have e':k=xn:=e;subst e';exact truthy_none ⟨H,I,q⟩
  |bl b=>
    cases rx
    have e':k=b:=e;subst e';exact fw ⟨H,I,q⟩
  |int i=>
    obtain⟨t,rfl⟩:=rx;have e':k=(i !=0):=e;subst e';exact PySem.P.truthy_int ⟨H,I,q⟩
  |str y=>
    obtain⟨t,rfl⟩:=rx;obtain⟨hy,e'⟩:y.length<=br/\k=((y.length:Int)!=0):=e;subst e';exact PySem.P.truthy_str (by omega) ⟨H,I.tok _,q⟩
  |byt y=>
    obtain⟨t,rfl⟩:=rx;obtain⟨hy,e'⟩:y.size<=br/\k=((y.size:Int)!=0):=e;subst e';exact PySem.W.truthy_bytes (by omega) ⟨H,I.tok _,q⟩
  |ref p=>
    cases rx
    have e':(∃xs,SqL X.K H p xs/\k=!xs.isEmpty)\/(∃xs,SqT X.K H p xs/\k=!xs.isEmpty)\/∃kvs,H p=cz (.dK kvs)/\k=!kvs.isEmpty:=e;rcases e' with⟨xs,hx,e'⟩|⟨xs,hx,e'⟩|⟨kvs,hx,e'⟩
    . subst e'
      obtain⟨its,r,pl,hz⟩:=I.list hx;have hlen:=r.length;exact wpAny_truthy_list pl.isList (by simp only[bj];omega) ⟨H,I.tok _,by rw[a2F r];exact q⟩
    . subst e'
      obtain⟨its,r,pl,hz⟩:=I.tuple hx;have hlen:=r.length;exact truthy_tuple pl (by simp only[bj];omega) ⟨H,I.tok _,by rw[a2F r];exact q⟩
    . subst e'
      obtain⟨hz,hS,vs,r,m⟩:kvs.length<=br/\(p==fA)=xn/\∃vs,KV kvs vs/\s.heap.DictOf (a4Z X.prog X.w) p vs:=I.hok p _ hx;have hlen:kvs.length=vs.length:=gQ r;exact wpAny_truthy_dict hS m (by omega) ⟨H,I.tok _,by rw[a7H r];exact q⟩
  |_=>exact (show False from e).elim
def b2s(ha:PE X a ta)(he:∀whole,CZ a X.env whole=(do let v <-whole;Cz a.pos;lW [v] (truthy v))) :
    PT X a (λY H Q=>ta Y H λx H'=>∃k,b5F X.K x H' k/\Q k H'):=by
  intro pins s Y H Q I h;exact isTrue_plain (thn (ha pins s Y H _ I h) λv s1 ⟨x,H1,I1,r1,q1⟩=>b2r pins s1 Y H1 x v Q I1 r1 q1) (he _)
def vals1(r:Vals [x] us):∃u,us=[u]/\RelV x u:=by
  cases r with
  |cons r1 r2=>cases r2;exact⟨_,rfl,r1⟩
def vals2(r:Vals [x,y] us):∃u w',us=[u,w']/\RelV x u/\RelV y w':=by
  cases r with
  |cons r1 r2=>
    cases r2 with
    |cons r3 r4=>cases r4;exact⟨_,_,rfl,r1,r3⟩
def b0z(hc:X.calm=rp):CallR X (.builtin "max") (λxs H Q=>∃i j,xs=[.int i,.int j]/\Q (.int (if j>i then j else i)) H):=by
  intro pins s Y H xs us Q I r h;obtain⟨i,j,rfl,q⟩:=h;obtain⟨u,w',rfl,⟨t,rfl⟩,⟨t',rfl⟩⟩:=vals2 r;refine max_two_ints (I.ok.hd hc) λh' tk k=>⟨_,H,I.kept k,?_,q⟩
  by_cases hj:j>i
  . rw[aE hj,aE hj];exact⟨_,rfl⟩
  . rw[aM hj,aM hj];exact⟨_,rfl⟩
def b0A(hc:X.calm=rp):CallR X (.builtin "min") (λxs H Q=>∃i j,xs=[.int i,.int j]/\Q (.int (if j<i then j else i)) H):=by
  intro pins s Y H xs us Q I r h;obtain⟨i,j,rfl,q⟩:=h;obtain⟨u,w',rfl,⟨t,rfl⟩,⟨t',rfl⟩⟩:=vals2 r;refine min_two_ints (I.ok.hd hc) λh' tk k=>⟨_,H,I.kept k,?_,q⟩
  by_cases hj:j<i
  . rw[aE hj,aE hj];exact⟨_,rfl⟩
  . rw[aM hj,aM hj];exact⟨_,rfl⟩
end
structure ObjM (h:cM) (x dx C:aC) (mA:bM->Option ai):Prop where
  obj:h.get? x=cz (qE C dx)
  ns:h.Ns1 dx mA
  ne:dx≠x
def b0B{h:cM}(n:h.Ns1 dx mA):∃od,h.get? dx=cz od/\∀name,rN name od=cz (mA name):=by
  obtain⟨o,es,ep,ho,hd,hk,_,hm⟩:=n;refine⟨o,ho,λname=>?_⟩;have e:=hm name;unfold nsFind findBy at e;rw[<-Array.find?_toList]at e;unfold rN;rw[hd]
  dsimp only
  split
  . rename_i y q
    rw[q]at e;exact dG cz e
  . rename_i q
    rw[q]at e;have a:es.toList.any (·.refKey)=xn:=by
      rw[fQ];intro y hy;obtain⟨z,t,oZ⟩:=hk y (fS.mp hy);simp[iS.refKey,oZ]
    have a':¬ es.toList.any (·.refKey)=rp:=by rw[a];exact cu
    rw[aM a'];exact dG cz e
def ObjM.look(I:ObjM h x dx C mA):∃od,PySem.W.InstAt h x (qE C dx) C (cz od)/\∀name,rN name od=cz (mA name):=
  let⟨od,ho,hl⟩:=b0B I.ns
  ⟨od,⟨I.obj,rfl,rfl,ho⟩,hl⟩
section
variable {P:bA}{w:bQ}{H H':Hp}{h h':cM}{a C dx:aC}{fs mz:List (bM×V)}
def b5G(hok:HOk P w H h)(e:H a=cz (.ins C dx fs)):∃mA,ObjM h a dx C mA/\(∀f,b8q (fs.lookup f) (mA f))/\PySem.Within mA (fs.map (·.1))/\fs.length<=1000/\H dx=cz (.own a):=by
  obtain⟨d,z,ne,ob,mA,n,r,q⟩:=(show ObjOk P w H h a (.ins C dx fs) from hok a _ e);exact⟨mA,⟨ob,n,ne⟩,r,q,z,d⟩
end
structure Cls (K:ag) (C:aC):Prop where
  pg:FK K C bM.empty=rp
  hd:PySem.W.hasDictIn K C=rp
  po:PySem.W.plainOver K C=rp
  sa:j_ K (.ref C) "__setattr__"=cz (cz (.builtin "object.__setattr__"))
def Cls.get{K:ag}{C:aC}(c:Cls K C)(f:bM):FK K C f=rp:=c.pg
structure Con (K:ag) (C:aC) (f:bM) (v:V) (u:ai):Prop where
  at_:j_ K (.ref C) f=cz (cz u)
  rel:RelV v u
  get:Ce K u "__get__"=cz p4
  cp:PySem.W.copiedNames.contains f=xn
structure Meth (K:ag) (C:aC) (m:bM) (f:aC):Prop where
  at_:j_ K (.ref C) m=cz (cz (.ref f))
  fn:PySem.W.isFn K (.ref f)=rp
  kp:fZ K (.ref f)=rp
section
variable {X:Cx}{pins:List (aC×gc)}{Y:St}{H:Hp}{s:ao}{A:bN}{E:ai->ao->Prop}{Q:ai->ao->Prop}{c:ai}{b:Bool}
inductive TyOf (K:ag) (H:Hp):V->ai->Prop where
  |non:TyOf K H .non (.type "NoneType")
  |bl (x:Bool):TyOf K H (.bl x) (.type "bool")
  |int (i:Int):TyOf K H (.int i) (.type "int")
  |str (x:bM):TyOf K H (.str x) (.type "str")
  |flt (x:UInt64):TyOf K H (.flt x) (.type "float")
  |lst {a:aC} {xs:List V} (e:H a=cz (.lst xs)):TyOf K H (.ref a) (.type "list")
  |frz {a:aC} {o:gc} {xs:List V} (e:H a=cz (.frz o (.lst xs))):TyOf K H (.ref a) (.type "list")
  |tup {a:aC} {xs:List V} (e:H a=cz (.tup xs)):TyOf K H (.ref a) (.type "tuple")
  |dK {a:aC} {kvs:List (Key×V)} (e:H a=cz (.dK kvs)):TyOf K H (.ref a) (.type "dict")
  |dT {a:aC} {kvs:List (List Key×V)} (e:H a=cz (.dT kvs)):TyOf K H (.ref a) (.type "dict")
  |ins {a C dx:aC} {fs:List (bM×V)} (e:H a=cz (.ins C dx fs)) (cl:Cls K C) (ha:j_ K (.ref C) "__class__"=cz (cz (.builtin "object.__class__")))
      (hn:Ce K (.builtin "object.__class__") "__get__"=cz (cz (.builtin "getset_descriptor.__get__"))) (Bl:PySem.W.takesIn K (.builtin "object.__class__")=cz rp)
      (hm:PySem.W.mroIn K C (.type "object")=cz rp):TyOf K H (.ref a) (.ref C)
def b0C(I:Inv X pins Y H s)(rx:RelV x u)(ty:TyOf X.K H x t)(e:fY X.K t c=cz b)(h:∀tk,Q (.bool b) {s with toks:=tk}) :
    aW (a_ X.prog X.w) A (call (.builtin "isinstance") [u,c]) Q E s:=by
  cases ty with
  |non=>cases (show u=bD from rx);exact df PySem.W.kitx_none I.kIn jZ e (λz=>nomatch z) h
  |bl y=>cases (show u=mW y from rx);exact df PySem.W.kitx_bool I.kIn jZ e (λz=>nomatch z) h
  |int i=>obtain⟨t,q⟩:=(show ∃t,u=gq i t from rx);cases q;exact df PySem.W.kitx_int I.kIn jZ e (λz=>nomatch z) h
  |str y=>obtain⟨t,q⟩:=(show ∃t,u=sM y t from rx);cases q;exact df PySem.W.kitx_str I.kIn jZ e (λz=>nomatch z) h
  |flt y=>obtain⟨t,q⟩:=(show ∃t,u=ai.float y t from rx);cases q;exact df PySem.W.kitx_float I.kIn jZ e (λz=>nomatch z) h
  |@lst a xs ea=>
    cases (show u=bt a from rx)
    obtain⟨_,_,n,_,h1⟩:=(show ObjOk X.prog X.w H s.heap a (.lst xs) from I.hok a _ ea);exact df oB I.kIn ⟨_,h1,rfl⟩ e (λz=>nomatch z) h
  |@frz a ob xs ea=>
    cases (show u=bt a from rx)
    obtain⟨_,_,_,n,_,h1⟩:=(show ObjOk X.prog X.w H s.heap a (.frz ob (.lst xs)) from I.hok a _ ea);exact df oB I.kIn ⟨_,h1,rfl⟩ e (λz=>nomatch z) h
  |@tup a xs ea=>
    cases (show u=bt a from rx)
    obtain⟨_,_,_,p⟩:=(show ObjOk X.prog X.w H s.heap a (.tup xs) from I.hok a _ ea);obtain⟨o,h1,h2,_⟩:=p;exact df AH I.kIn ⟨o,h1,h2⟩ e (λz=>nomatch z) h
  |@dK a kvs ea=>
    cases (show u=bt a from rx)
    obtain⟨_,_,vs,_,p⟩:=(show ObjOk X.prog X.w H s.heap a (.dK kvs) from I.hok a _ ea);obtain⟨o,es,ep,h1,h2,_⟩:=p;exact df oD I.kIn ⟨o,h1,h2.1⟩ e (λz=>nomatch z) h
  |@dT a kvs ea=>
    cases (show u=bt a from rx)
    obtain⟨_,_,xs,_,o,es,ep,h1,h2,_⟩:=(show ObjOk X.prog X.w H s.heap a (.dT kvs) from I.hok a _ ea);exact df oD I.kIn ⟨o,h1,h2.1⟩ e (λz=>nomatch z) h
  |@ins a C dx fs ea cl ha hn Bl hm=>
    cases (show u=bt a from rx)
    obtain⟨mA,O,_⟩:=b5G I.hok ea;obtain⟨od,J,_⟩:=O.look;exact df (PySem.W.kitx_own (cl.get _) cl.hd ha hn Bl hm) I.kIn J e (λz=>nomatch z) h
end
structure Room (k:Nat) (A:bN):Prop where
  hd:A.handled=p4
  dp:A.depth+3*k+5<recursionLimit
  un:A.units+16*k+500<dF
def Room.mono(r:Room k A)(h:j<=k):Room j A:=⟨r.hd,by have:=r.dp;omega,by have:=r.un;omega⟩
theorem Room.deeper(r:Room (k+1) A)(env:pH):Room k (A.deeper env):=
  ⟨r.hd,by have:=r.dp;show A.depth+1+3*k+5<_;omega,by have:=r.un;show A.units+3+16*k+500<_;omega⟩
theorem Room.in1(r:Room (k+1) A):Room k A.in1:=
  ⟨r.hd,by have:=r.dp;show A.depth+3*k+5<_;omega,by have:=r.un;show A.units+1+16*k+500<_;omega⟩
theorem Room.depth(r:Room k A):A.depth<recursionLimit:=by have:=r.dp;omega
theorem Room.units(r:Room k A):A.units+464<dF:=by have:=r.un;omega
def b2t:TA:=λ_ H Q=>Q [] H
def a6n(ta:TE)(tr:TA):TA:=λY H Q=>ta Y H λx H1=>tr Y H1 λxs H2=>Q (x::xs) H2
section
variable {X:Cx}{e:Expr}{es:List Expr}{te:TE}{t:TA}{pos:fV}
def n8:PA X [] b2t:=λ_ _ _ _ H Q I h=>Calls.spliced_nil ⟨[],H,I,.nil,h⟩
def k6(ha:PE X e te)(hr:PA X es t)(hs:au (e::es) X.env=(xn,cI e X.env)::au es X.env:=by rfl):PA X (e::es) (a6n te t):=by
  intro pos pins s Y H Q I h;rw[hs];show aW _ _ (spliced ((xn,cI e X.env)::cD pos (au es X.env))) _ _ s;refine Calls.spliced_cons (thn (ha pins s Y H _ I h) λu s1 qz=>?_);obtain⟨x,H1,I1,r1,q1⟩:=qz;exact thn (hr pos pins s1 Y H1 _ I1 q1) λus s2 ⟨xs,H2,I2,r2,q2⟩=>⟨x::xs,H2,I2,.cons r1 r2,q2⟩
def c3f(t:TA):TE:=λY H Q=>t Y H λxs H1=>xs.length<=br/\∀p,H1 p=p4->Q (.ref p) (upd H1 p (.tup xs))
def c3g(t:TA):TE:=λY H Q=>t Y H λxs H1=>xs.length<=br/\∀p,H1 p=p4->Q (.ref p) (upd H1 p (.lst xs))
def a7I{x1}(h:PA X es t):PE X (.Tuple es x1 pos) (c3f t):=by
  intro pins s Y H Q I hq;refine wpAny_Tuple_spliced (thn (h pos pins s Y H _ I hq) λus s1 ⟨xs,H1,I1,r,z,q⟩=>⟨by rw[<-r.length];exact z,?_⟩);have hf:H1 s1.heap.objs.size=p4:=I1.hok.fresh (az _);refine⟨.ref s1.heap.objs.size,upd H1 s1.heap.objs.size (.tup xs),I1.laid (t':=s1.toks) (λb u e=>aO _ e) (az _) ?_,rfl,q _ hf⟩;exact⟨z,us,r,⟨_,bz _ rfl,rfl,_,rfl⟩⟩
def b8S(h:PA X es t):PE X (.List es pos) (c3g t):=by
  intro pins s Y H Q I hq;refine wpAny_List_spliced (thn (h pos pins s Y H _ I hq) λus s1 ⟨xs,H1,I1,r,z,q⟩=>⟨by rw[<-r.length];exact z,?_⟩);have hf:H1 s1.heap.objs.size=p4:=I1.hok.fresh (az _);refine⟨.ref s1.heap.objs.size,upd H1 s1.heap.objs.size (.lst xs),I1.laid (t':=s1.toks) (λb u e=>aO _ e) (az _) ?_,rfl,q _ hf⟩;exact⟨z,us,0,r,bz _ rfl⟩
end
abbrev Sp:=List V->Hp->VK->XK->Prop
abbrev CXT:=List pH->Hp->ao->XK->ai->ao->Prop
structure Env0 (P:bA) (w:bQ) (K:ag) (mg:bM->Option ai) (base:cM) (A:bN) (outer:List pH) (s:ao) (H:Hp):Prop where
  frames:A.frames=cz outer
  mod:Mod K mg base
  bs:∀b o,base.get? b=cz o->s.heap.get? b=cz o/\H b=p4
  bsz:base.objs.size<=s.heap.objs.size
  funs:s.heap.FunFrames base outer
  frf:∀b∈frs outer,H b=p4
  hok:HOk P w H s.heap
  bare:p_ s.gens
  tabs:TabsIn K H
def CE(outer:List pH)(P:bA)(w:bQ)(H:Hp)(s:ao)(Q:VK)(u:ai)(s':ao):Prop:=
  ∃v H',s'.os=s.os/\p_ s'.gens/\Un (frs outer) [] H H' s.heap s'.heap/\HOk P w H' s'.heap/\RelV v u/\Q v H'
def CR(CX:CXT)(outer:List pH)(P:bA)(w:bQ)(H:Hp)(s:ao)(Q:VK)(E:XK)(r:xM)(s':ao):Prop:=
  match r with
  |.ok (.ret u)=>CE outer P w H s Q u s'
  |.ok _=>False
  |.error e=>CX outer H s E e s'
structure FnOk (P:bA) (w:bQ) (K:ag) (mg:bM->Option ai) (base:cM) (CX:CXT) (k:Nat) (f:aC) (fd:dU) (ps:List bM) (sp:Sp):Prop where
  len:∀vs H Q E,sp vs H Q E->vs.length=ps.length
  run:∀(A:bN) (outer:List pH) (s:ao) (H:Hp) (args:Args) (us:List ai) (vs:List V) (Q:VK) (E:XK),Room k A->Env0 P w K mg base A outer s H->oR s fd args (ps.zip us)->Vals vs us->sp vs H Q E->
    kJ (a_ P w) A (.call (.ref f) args) (CR CX outer P w H s Q E) s
theorem FnOk.mono{P:bA}{w:bQ}{K:ag}{mg:bM->Option ai}{base:cM}{CX:CXT}{j k:Nat}{f:aC}{fd:dU}{ps:List bM}{sp:Sp}(F:FnOk P w K mg base CX j f fd ps sp)(h:j<=k) :
    FnOk P w K mg base CX k f fd ps sp:=⟨F.len,λA outer s H args us vs Q E hr=>F.run A outer s H args us vs Q E (hr.mono h)⟩
theorem Env0.in1{P:bA}{w:bQ}{K:ag}{mg:bM->Option ai}{base:cM}{A:bN}{outer:List pH}{s:ao}{H:Hp}(e:Env0 P w K mg base A outer s H) :
    Env0 P w K mg base A.in1 outer s H:=⟨e.frames,e.mod,e.bs,e.bsz,e.funs,e.frf,e.hok,e.bare,e.tabs⟩
section
variable {X:Cx}{pins:List (aC×gc)}{Y:St}{H:Hp}{s s':ao}
def Inv.env0(I:Inv X pins Y H s):Env0 X.prog X.w X.K X.mg X.base X.A X.stack s H:=
  ⟨I.ok.frames,I.ok.mod,I.bs,cC I.ok.bsz I.sz,I.stack,I.stkFree,I.hok,I.bare,I.tabs⟩
def Inv.after(I:Inv X pins Y H s)(h:CE X.stack X.prog X.w H s Q u s'):EP X pins Y Q u s':=by
  obtain⟨v,H',os,bare,un,hok,r,q⟩:=h;obtain⟨hh,g,d,t,yT⟩:=s';obtain rfl:yT=s.os:=os;exact⟨v,H',I.call (h':=hh) (g':=g) (d':=d) (t':=t) (ch:=[]) un hok bare (λb z=>absurd z (by simp)),r,q⟩
end
def b7W(sp:Sp)(tL:List V)(E:XK)(t:TA):TE:=λY H Q=>t Y H λvs H1=>sp (vs++tL) H1 Q E
def Binds(K:ag)(fd:dU)(ps:List bM)(ds:List ai):Prop:=
  ∀(s:ao) (us:List ai),K.In s.heap->(us++ds).length=ps.length->oR s fd ⟨us,[]⟩ (ps.zip (us++ds))
def Binds.all{K:ag}{fd:dU}{ps:List bM}(h:∀us:List ai,us.length=ps.length->rH fd ⟨us,[]⟩=pure (ps.zip us)):Binds K fd ps []:=λs us _ hl=>by
  rw[aX]at hl ⊢;exact .of_eq (h us hl)
def a7J(CX:CXT)(X:Cx)(E:XK):Prop:=∀(pins:List (aC×gc)) (Y:St) (H:Hp) (s:ao) (e:ai) (s':ao),Inv X pins Y H s->CX X.stack H s E e s'->X.xe e s'
section
variable {X:Cx}{CX:CXT}{k:Nat}{f C:aC}{fd:dU}{ps:List bM}{sp:Sp}{tL:List V}{ds:List ai}{E:XK}{x m:bM}{p pos apos:fV}{e o:Expr}{es:List Expr}{ta:TE}{t:TA}
def b8T(F:FnOk X.prog X.w X.K X.mg X.base CX k f fd ps sp)(hr:Room k X.A)(hb:Binds X.K fd ps ds)(hd:Vals tL ds)(hx:a7J CX X E)
    (I:Inv X pins Y H s) (r:Vals vs us) (h:sp (vs++tL) H Q E):aW (a_ X.prog X.w) X.A (call (.ref f) us) (EP X pins Y Q) X.xe s:=by
  have r2:Vals (vs++tL) (us++ds):=r.append hd;have hl:(us++ds).length=ps.length:=by rw[<-r2.length];exact F.len _ _ _ _ h
  refine qd (fX (F.run X.A X.stack s H ⟨us,[]⟩ (us++ds) (vs++tL) Q E hr I.env0 (hb s us I.kIn hl) r2 h) λr s' hq=>?_);cases r with
  |error e=>exact hx pins Y H s e s' I hq
  |ok fl=>
    cases fl with
    |ret u=>exact I.after hq
    |next=>exact cO hq
    |brk=>exact cO hq
    |cont=>exact cO hq
def b5H(F:FnOk X.prog X.w X.K X.mg X.base CX k f fd ps sp)(hr:Room k X.A)(hg:Gl X x)(hm:X.mg x=cz (.ref f))(hk:fZ X.K (.ref f)=rp)(hb:Binds X.K fd ps ds)(hd:Vals tL ds)(hx:a7J CX X E)
    (ha:PA X (e::es) t) (mH:(x==("__debug__":bM))=xn:=by decide) (he:au (e::es) X.env=(xn,cI e X.env)::au es X.env:=by rfl) (gK:(cD pos (au es X.env)).any (·.1)=xn:=by rfl) :
    PE X (.Call (.Name x p) (e::es) [] pos) (b7W sp tL E t):=by
  intro pins s Y H Q I h;refine gG (a5c I hg hm ?_ mH);refine AI (h₀:=X.base) I.ok.mod.kin hk (thn (ha pos pins s Y H _ I h) λus s1 ⟨vs,H1,I1,r,q⟩=>⟨I1.kIn,?_⟩) he gK;exact b8T F hr hb hd hx I1 r q
structure Mk (K:ag) (C f:aC):Prop where
  makes:PySem.W.makesIn K C=rp
  init:j_ K (.ref C) "__init__"=cz (cz (.ref f))
  fn:PySem.W.isFn K (.ref f)=rp
  kp:fZ K (.ref C)=rp
end
def PK(X:Cx)(wc:List eL)(t:TA):Prop:=
  ∀(pos:fV) (pins:List (aC×gc)) (s:ao) (Y:St) (H:Hp) (Q:List V->Hp->Prop),Inv X pins Y H s->t Y H Q->aW (a_ X.prog X.w) X.A (evalAll ((eV pos (dC wc X.env)).map (·.2))) (AP X pins Y Q) X.xe s
section
variable {X:Cx}{CX:CXT}{k:Nat}{f C:aC}{fd:dU}{ps ks:List bM}{sp:Sp}{E:XK}{x m:bM}{p pos apos mi:fV}{e o:Expr}{es:List Expr}{wc:List eL}{te ta:TE}{t tk:TA}{nm:Option bM}
def b8U:PK X [] b2t:=λ_ _ _ _ H Q I h=>wpAny_evalAll_nil ⟨[],H,I,.nil,h⟩
def b5I(ha:PE X e te)(hr:PK X wc t):PK X (⟨nm,e,mi⟩::wc) (a6n te t):=by
  intro pos pins s Y H Q I h;show aW _ _ (evalAll ((do let v <-cI e X.env;Cz pos;pure v)::(eV pos (dC wc X.env)).map (·.2))) _ _ s;refine wpAny_evalAll_cons (ae (thn (ha pins s Y H _ I h) λu s1 ⟨x,H1,I1,r1,q1⟩=>ae (mh (aA ?_))));exact thn (hr pos pins s1 Y H1 _ I1 q1) λus s2 ⟨xs,H2,I2,r2,q2⟩=>⟨x::xs,H2,I2,.cons r1 r2,q2⟩
structure KBinds (K:ag) (fd:dU) (ps ks:List bM) (g:List ai->List ai->List ai) (gV:List V->List V->List V):Prop where
  to:∀(s:ao) (us ws:List ai),K.In s.heap->(g us ws).length=ps.length->oR s fd ⟨us,ks.zip ws⟩ (ps.zip (g us ws))
  rel:∀{vs:List V} {us:List ai} {zs:List V} {ws:List ai},Vals vs us->Vals zs ws->Vals (gV vs zs) (g us ws)
variable {g:List ai->List ai->List ai}{gV:List V->List V->List V}
end
structure FnScope (N P:List bM) (sc:gL):Prop where
  kind:sc.kind=.function
  co:sc.isCoroutine=xn
  gen:sc.isGenerator=xn
  nd:N.Nodup
  pre:N.take P.length=P
  par:∀x∈P,sc.names.lookup x=cz .local\/sc.names.lookup x=cz .cell
  nofree:∀y∈sc.names,y.2≠.free
theorem a4j{kindOf:bM->Option jn}{x:bM}:∀{binds:List (bM×ai)} {m:bM->Option ai},(∀v,(x,v)∉binds)->Ca kindOf binds m x=m x
  |[],_,_=>rfl
  | (n,v)::r,m,h=>by
    unfold Ca;rw[a4j λw hw=>h w (ar _ hw)]
    split
    . have:x≠n:=by rintro rfl;exact h v aK
      simp[this]
    . rfl
theorem a4k{kindOf:bM->Option jn}{x:bM}:∀{binds:List (bM×ai)} {m:bM->Option ai},(∀v,(x,v)∉binds)->Cb kindOf binds m x=m x
  |[],_,_=>rfl
  | (n,v)::r,m,h=>by
    unfold Cb;rw[a4k λw hw=>h w (ar _ hw)]
    split
    . rfl
    . have:x≠n:=by rintro rfl;exact h v aK
      simp[this]
theorem a4l{kindOf:bM->Option jn}{x:bM}{v:ai}:∀{P:List bM} {vs:List ai} {i:Nat} {m:bM->Option ai},P.Nodup->P[i]?=cz x->vs[i]?=cz v->kindOf x=cz .local->
    Ca kindOf (P.zip vs) m x=cz v
  |[],_,_,_,_,h,_,_=>by simp at h
  |_::_,[],_,_,_,_,h,_=>by simp at h
  |p::P,w::vs,0,m,nd,h1,h2,hk=>by
    simp at h1 h2;subst h1;subst h2
    show Ca kindOf ((p,w)::P.zip vs) m p=_;unfold Ca;rw[a4j λv hv=>(cF.mp nd).1 (jA hv).1,aE hk];simp
  |p::P,w::vs,i+1,m,nd,h1,h2,hk=>by
    show Ca kindOf ((p,w)::P.zip vs) m x=_;unfold Ca;exact a4l (i:=i) (cF.mp nd).2 (by simpa using h1) (by simpa using h2) hk
theorem a4m{kindOf:bM->Option jn}{x:bM}{v:ai}:∀{P:List bM} {vs:List ai} {i:Nat} {m:bM->Option ai},P.Nodup->P[i]?=cz x->vs[i]?=cz v->kindOf x≠cz .local->
    Cb kindOf (P.zip vs) m x=cz v
  |[],_,_,_,_,h,_,_=>by simp at h
  |_::_,[],_,_,_,_,h,_=>by simp at h
  |p::P,w::vs,0,m,nd,h1,h2,hk=>by
    simp at h1 h2;subst h1;subst h2
    show Cb kindOf ((p,w)::P.zip vs) m p=_;unfold Cb;rw[a4k λv hv=>(cF.mp nd).1 (jA hv).1,aM hk];simp
  |p::P,w::vs,i+1,m,nd,h1,h2,hk=>by
    show Cb kindOf ((p,w)::P.zip vs) m x=_;unfold Cb;exact a4m (i:=i) (cF.mp nd).2 (by simpa using h1) (by simpa using h2) hk
def start(N:List bM)(vs:List V):St:=vs.map cz++aI (N.length-vs.length) p4
def a0z(CX:CXT)(P:bA)(w:bQ)(K:ag)(mg:bM->Option ai)(base:cM)(N:List bM)(qual:bM)(scope:gL)(f:aC)(cd:ai)(A:bN)(outer:List pH)(s:ao)(H:Hp)(E:XK):Cx where
  prog:=P
  w:=w
  K:=K
  mg:=mg
  base:=base
  A:=A.deeper (jD qual scope s.heap.objs.size f cd)
  N:=N
  s₀:=s
  H₀:=H
  env:=jD qual scope s.heap.objs.size f cd
  outer:=outer
  stack:=jD qual scope s.heap.objs.size f cd::outer
  ex:=[]
  calm:=rp
  fn:=λ_=>rp
  pn:=[]
  xe:=λe s'=>aW (a_ P w) (A.deeper (jD qual scope s.heap.objs.size f cd)) (leaving (jD qual scope s.heap.objs.size f cd) e) (λ_ vW=>CX outer H s E e vW) (λe' vW=>CX outer H s E e' vW) s'
def a6o{sc:gL}(h:sc.names.lookup x=cz .cell):∃c,(cellsFrom n sc.names []).lookup x=cz c:=by
  have q:=uQ sc.names n [] (.inl h);exact kP.mp q
def b0D{CX:CXT}{P:bA}{w:bQ}{K:ag}{mg:bM->Option ai}{base:cM}{N ps:List bM}{qual:bM}{scope:gL}{f:aC}{cd:ai}{A:bN}{outer:List pH}{s s1:ao}{H:Hp}{E:XK}{us:List ai}{vs:List V}
    (S:FnScope N ps scope) (hd:A.handled=p4) (e0:Env0 P w K mg base A outer s H) (hl:vs.length=ps.length) (r:Vals vs us)
    (x:InCallC s s.heap.objs.size (Ca (jD qual scope s.heap.objs.size f cd).kindOf (ps.zip us) λ_=>p4) (cellsFrom (s.heap.objs.size+1) scope.names []) (Cb (jD qual scope s.heap.objs.size f cd).kindOf (ps.zip us) λ_=>p4) s1) :
    Inv (a0z CX P w K mg base N qual scope f cd A outer s H E) [] (start N vs) H s1:=by
  have gK:ps.length<=N.length:=by have:=dG dQ S.pre;rw[dO]at this;omega
  obtain⟨h1,tk,rfl,hk⟩:=x.done;have uc:∀b:aC,b∉(a0z CX P w K mg base N qual scope f cd A outer s H E).ex:=λb z=>absurd (show b∈([]:List aC) from z) (by simp)
  refine⟨⟨e0.mod,S.kind,rfl,rfl,az _,λy z c h1 h2=>?_,λy hy=>?_,λy c _ h=>?_,λ_=>hd,bN.frames_deeper e0.frames,.inr ⟨rfl,rfl⟩,λb z=>absurd z (uc b),e0.bs,e0.bsz,λb _ _=>uc b,λb z=>absurd z (uc b),e0.funs,e0.frf,e0.tabs⟩,
    rfl,e0.bare,Un.kept hk,⟨_,x.toInCall.ns,λi y v h1 h2 h3=>?_⟩,λy c h=>⟨_,x.cell y c h⟩,e0.hok.fresh (az _),λy c h=>?_,λp hp=>absurd (show p∈([]:List (aC×gc)) from hp) (by simp),e0.hok.kept hk,?_⟩
  . exact name_of_addr x.apart (cB h1) (cB h2)
  . have hy:scope.names.lookup y=cz .cell\/scope.names.lookup y=cz .free:=hy
    rcases hy with hy|hy
    . exact a6o hy
    . exact absurd rfl (S.nofree _ (cB hy))
  . exact eJ (x.above y c (cB h))
  . have hi:i<vs.length:=by
      unfold start at h2;by_cases hi:i<vs.length
      . exact hi
      . rw[bI (by simpa using hi)]at h2
        rw[tS]at h2
        split at h2<;>cases h2
    have ha:vs[i]?=cz v:=by
      unfold start at h2;rw[cG (by simpa using hi),aQ]at h2;cases e:vs[i]? with
      |none=>rw[e]at h2;cases h2
      |some a=>rw[e]at h2;cases h2;rfl
    obtain⟨u,hu,rv⟩:=r.get ha;have hp:ps[i]?=cz y:=by
      rw[<-S.pre,kR (by omega)];exact h1
    have AZ:ps.Nodup:=by rw[<-S.pre];exact S.nd.sublist (List.take_sublist _ _)
    refine⟨u,rv,?_⟩;rcases S.par y (bo hp) with k|k
    . exact .inl ⟨k,a4l AZ hp hu k⟩
    . obtain⟨c,e⟩:=a6o (n:=s.heap.objs.size+1) k
      refine .inr ⟨.inl k,c,e,?_⟩;have q:=x.cell y c e;rw[a4m AZ hp hu (by show scope.names.lookup y≠_;rw[k];decide)]at q;exact q
  . exact e0.hok.fresh (eJ (x.above y c (cB h)))
  . unfold start
    show _=N.length;rw[av,af,fG];omega
def b7X{CX:CXT}{P:bA}{w:bQ}{K:ag}{mg:bM->Option ai}{base:cM}{k:Nat}{f:aC}{name qual:bM}{params:oS}{body:List iO}{scope:gL}{dV kV doc pm gH ct oc:ai}{an od:Option aC}
    {qm:Array (Option ai)} {N ps:List bM} {sp:Sp} (lk:K.lookup f=cz ⟨oc,od,.func (gf name qual params body scope dV kV doc pm an gH ct),qm⟩) (nI:mL K gH qual=rp) (S:FnScope N ps scope)
    (len:∀vs H Q E,sp vs H Q E->vs.length=ps.length)
    (rq:∀(A:bN) (outer:List pH) (s:ao) (H:Hp) (vs:List V) (Q:VK) (E:XK),Room k (A.deeper (jD qual scope s.heap.objs.size f gH))->sp vs H Q E->
      ∃t,PSs (a0z CX P w K mg base N qual scope f gH A outer s H E) body t/\t {nx:=λ_ H'=>Q .non H',rt:=Q} (start N vs) H) :
    FnOk P w K mg base CX (k+1) f (gf name qual params body scope dV kV doc pm an gH ct) ps sp:=by
  refine⟨len,λA outer s H args us vs Q E hr e0 hb r qZ=>?_⟩;have hl:=len _ _ _ _ qZ;have KX:K.In s.heap:=e0.mod.kin.keeps λb o e=>(e0.bs b o e).1
  have lim:s.heap.NoLimit:=e0.mod.nolimit.keeps λb o e=>(e0.bs b o e).1
  have wW:∀y∈ps.zip us,scope.names.lookup y.1=cz .local\/(scope.names.lookup y.1=cz .cell/\((cellsFrom (s.heap.objs.size+1) scope.names []).lookup y.1).isSome=rp):=λ⟨n,v⟩ hy=>by
    rcases S.par n (jA hy).1 with q|q
    . exact .inl q
    . exact .inr ⟨q,uQ _ _ _ (.inl q)⟩
  refine codeAny_call_function hr.depth (KX _ _ lk) rfl S.co S.gen rfl (PySem.W.codeRec_of KX nI) (hb _ _ _ _ ?_);refine wpAny_newFunctionEnv_cells S.kind wW λenv he s1 x=>?_
  subst he;refine⟨lim.keeps x.toInCall.keep,codeAny_func ?_⟩;obtain⟨t,ht,hq⟩:=rq A outer s H vs Q E (hr.deeper _) qZ;have I:Inv (a0z CX P w K mg base N qual scope f gH A outer s H E) [] (start N vs) H s1:=b0D S hr.hd e0 hl r x;refine dW (ht [] s1 (start N vs) H _ I hq) (λfl s' hs=>?_) λe s' hs=>hs
  have fin:∀{Y':St} {H':Hp} {v:V} {u:ai},Inv (a0z CX P w K mg base N qual scope f gH A outer s H E) [] Y' H' s'->RelV v u->Q v H'->CE outer P w H s Q u s':=
    λ{Y' H' v u} J rv q=>⟨v,H',J.os,J.bare,J.base,J.hok,rv,q⟩
  cases fl with
  |ret u=>
    obtain⟨v,Y',H',J,rv,q⟩:=hs;exact fin J rv q
  |next=>
    obtain⟨Y',H',J,q⟩:=hs;exact fin (v:=V.non) (u:=bD) J rfl q
  |brk=>
    obtain⟨_,_,_,q⟩:=hs;exact cO q
  |cont=>
    obtain⟨_,_,_,q⟩:=hs;exact cO q
section
variable {X:Cx}{x:bM}{p pos:fV}{e:Expr}{es:List Expr}{t:TA}{id T:String}{r:List V->Hp->VK->Prop}
def tCB(r:List V->Hp->VK->Prop)(t:TA):TE:=λY H Q=>t Y H λvs H1=>r vs H1 Q
def a0A(hc:CallR X (.builtin id) r)(hg:Gl X x)(hm:X.mg x=p4)(hv:ie x=cz (.builtin id))(ha:PA X (e::es) t)(hn:x≠"__name__":=by decide)(mH:(x==("__debug__":bM))=xn:=by decide)
    (he:au (e::es) X.env=(xn,cI e X.env)::au es X.env:=by rfl) (gK:(cD pos (au es X.env)).any (·.1)=xn:=by rfl):PE X (.Call (.Name x p) (e::es) [] pos) (tCB r t):=by
  intro pins s Y H Q I h;refine gG (a0g I hg hm hv ?_ hn mH);exact PyProof.Rows.callWith_builtin1 (thn (ha pos pins s Y H _ I h) λus s1 ⟨vs,H1,I1,r1,q1⟩=>hc pins s1 Y H1 vs us Q I1 r1 q1) he gK
def J9(hc:CallR X (.type T) r)(hg:Gl X x)(hm:X.mg x=p4)(hv:ie x=cz (.type T))(ha:PA X (e::es) t)(hn:x≠"__name__":=by decide)(mH:(x==("__debug__":bM))=xn:=by decide)
    (he:au (e::es) X.env=(xn,cI e X.env)::au es X.env:=by rfl) (gK:(cD pos (au es X.env)).any (·.1)=xn:=by rfl):PE X (.Call (.Name x p) (e::es) [] pos) (tCB r t):=by
  intro pins s Y H Q I h;refine gG (a0g I hg hm hv ?_ hn mH);exact gE (thn (ha pos pins s Y H _ I h) λus s1 ⟨vs,H1,I1,r1,q1⟩=>hc pins s1 Y H1 vs us Q I1 r1 q1) he gK
end
end L2
namespace HT
open PyProof.Rows
def lexLt:List Int->List Int->Bool
  |[],[]=>xn
  |[],_::_=>rp
  |_::_,[]=>xn
  |x::xs,y::ys=>if x=y then lexLt xs ys else decide (x<y)
def a2G(x y:Int)(xs ys:List Int):lexLt (x::xs) (y::ys)=if x=y then lexLt xs ys else decide (x<y):=rfl
def a3T:lexLt [] []=xn:=rfl
def a2H(y:Int)(ys:List Int):lexLt [] (y::ys)=rp:=rfl
def a2I(x:Int)(xs:List Int):lexLt (x::xs) []=xn:=rfl
def b2u(A:bN)(s:ao)(a:Int)(t:Tok)(c:Int)(u:Tok):∃e,SeqAt.EqAt A s (.int a t) (.int c u) e/\(e=rp↔a=c):=
  ⟨(a==c),SeqAt.EqAt.int_int a t c u,by simp⟩
def b2v(A:bN)(s:ao)(a:Int)(t:Tok)(c:Int)(u:Tok)(prog:bA)(w:bQ)(E:ai->ao->Prop)(Q:ai->ao->Prop)(h:Q (.bool (decide (a<c))) s) :
    aW (a_ prog w) A (richCompare .Lt (.int a t) (.int c u)) Q E s:=
  (PyProof.Rows.lt_int h:aW (a_ prog w) A (cR .Lt (.int a t) (.int c u)) Q E s)
section
open PySem.SeqAt
open PySem.AutoSeq1 (wpAny_loadPart')
open PySem.MeetsSeq PySem.MeetsSeq2 PySem.MeetsSeq3
def a3U(l b:aC)(items jx:Array ai)(n n2:Nat)(dd Ay:Option aC)(sl yM:Array (Option ai))(ns ms:List Int)(hi:IntsAre items.toList ns)(hj:IntsAre jx.toList ms) :
    Meets (Builtin.«tuple.__lt__» ⟨[.ref l,.ref b],[]⟩)
      (λ_ R s=>s.heap.get? l=cz {cls:=.type "tuple",dict:=dd,data:=.seq items n,slots:=sl}/\s.heap.get? b=cz {cls:=.type "tuple",dict:=Ay,data:=.seq jx n2,slots:=yM}/\
        R (.ok (.ret (.bool (lexLt ns ms)))) s):=
  .of_wp λprog w A R s h=>by
    obtain⟨hp,g,d,tk,os⟩:=s;obtain⟨hl,hb,h⟩:=h;have f2:=AutoSeq1.sub_tuple_tuple;have z1:items.size=ns.length:=by rw[<-hi.length];simp
    have z2:jx.size=ms.length:=by rw[<-hj.length];simp
    wp_walk using wpAny_loadPart' hl,wpAny_loadPart' hb,jI _ (λrest b s'=>b.1=p4/\s'=⟨hp,g,d,tk,os⟩/\∃(vs ws:List ai) (va vb:List Int),rest=vs.zip ws/\
      IntsAre vs va/\IntsAre ws vb/\va.length+jx.size=vb.length+items.size/\R (.ok (.ret (.bool (lexLt va vb)))) ⟨hp,g,d,tk,os⟩) _
    case turn=>
      rintro⟨y,x⟩ rest b s' ⟨vE,rfl,vs,ws,va,vb,hz,qW,yd,hlen,hR⟩;cases qW with
      |nil=>rw[oI]at hz;cases hz
      |cons a t so=>
        cases yd with
        |nil=>rw[nM]at hz;cases hz
        |cons c u zk=>
          rw[dJ]at hz
          injection hz with zh jS
          injection zh with hy hx
          subst hy hx;rw[a2G]at hR;simp only[aS]at hlen;obtain⟨e,he,wZ⟩:=b2u A.in1 ⟨hp,g,d,tk,os⟩ a t c u;refine ae (he prog w _ _ ?_);cases e with
          |true=>
            rw[aE (wZ.mp rfl)]at hR
            wp_walk
            exact⟨rfl,rfl,_,_,_,_,jS,so,zk,by omega,hR⟩
          |false=>
            rw[aM (λq=>absurd (wZ.mpr q) cu)]at hR;have Dw:=b2v A.in1 ⟨hp,g,d,tk,os⟩ a t c u prog w
            wp_walk using Dw
            exact⟨_,rfl,by simpa using hR⟩
    case fin=>
      rintro⟨b1,b2⟩ s' ⟨vE,rfl,vs,ws,va,vb,hz,qW,yd,hlen,hR⟩;simp only at vE;subst vE;have hv:lexLt va vb=decide (items.size<jx.size):=by
        cases qW with
        |nil=>
          cases yd with
          |nil=>
            simp only[eS]at hlen;rw[a3T];exact (aZ (by omega)).symm
          |cons c u hw=>
            simp only[eS,aS]at hlen;rw[a2H];exact (aV (by omega)).symm
        |cons a t hv=>
          cases yd with
          |nil=>
            simp only[eS,aS]at hlen;rw[a2I];exact (aZ (by omega)).symm
          |cons c u hw=>
            rw[dJ]at hz;cases hz
      rw[hv]at hR
      wp_walk
      exact⟨_,rfl,by simpa[Builtin.Tuple.tupleCompareSizes]using hR⟩
    case h=>
      exact⟨rfl,rfl,items.toList,jx.toList,ns,ms,rfl,hi,hj,by omega,h⟩
end
section
variable {prog:bA}{w:bQ}{A:bN}{E:ai->ao->Prop}{s:ao}
def a7K(hl:IsTup s.heap l items)(hb:IsTup s.heap b jx)(hi:IntsAre items.toList ns)(hj:IntsAre jx.toList ms)
    (hu:A.units<dF) (h:Q (.bool (lexLt ns ms)) s):aW (a_ prog w) A (cR .Lt (.ref l) (.ref b)) Q E s:=by
  obtain⟨⟨cls,dd,data,sl⟩,ho,hc,n,hd⟩:=id hl;obtain⟨⟨FD,Ay,data2,yM⟩,Bt,sE,n2,hd2⟩:=id hb;simp only at hc hd sE hd2;subst hc hd sE hd2;exact richCompare_meets_room (op:=.Lt) ⟨_,ho,rfl⟩ ⟨_,Bt,rfl⟩ PySem.F.slot_tuple_lt PySem.F.entry_tuple_lt (PySem.F.args_tuple_lt_2 _ _) (a3U l b items jx n n2 dd Ay sl yM ns ms hi hj)
    ⟨ho,Bt,show mW (lexLt ns ms)≠ai.notImplemented/\Q (.bool (lexLt ns ms)) s from⟨(λx=>nomatch x),h⟩⟩ hu
def sIx(n d:Nat):Option Int->Nat
  |none=>d
  |some v=>if v<0 then (v+(n:Int)).toNat else min v.toNat n
end
end HT
namespace L2
open PySem.Spec PyProof.Rows
abbrev TO:=St->Hp->(Option Int->Hp->Prop)->Prop
def PO(X:Cx)(e:Option Expr)(t:TO):Prop:=
  ∀(pins:List (aC×gc)) (s:ao) (Y:St) (H:Hp) (Q:Option Int->Hp->Prop),Inv X pins Y H s->t Y H Q->
    aW (a_ X.prog X.w) X.A (evalPart e X.env) (λu s'=>∃o H',Inv X pins Y H' s'/\IsPart u o/\Q o H') X.xe s
def b5J:TO:=λ_ H Q=>Q p4 H
def c1j(t:TE):TO:=λY H Q=>t Y H λx H1=>∃i,x=.int i/\Q (cz i) H1
section
variable {X:Cx}{e:Expr}{te:TE}{lo hi:Option Expr}{tl th:TO}{pos p2:fV}
def b5K:PO X p4 b5J:=by
  intro pins s Y H Q I h;rw[evalPart_none];exact aA ⟨p4,H,I,.none,h⟩
def b5L(h:PE X e te):PO X (cz e) (c1j te):=by
  intro pins s Y H Q I hw;rw[evalPart_some];refine thn (h pins s Y H _ I hw) λu s1 qz=>?_
  obtain⟨x,H1,I1,r1,q1⟩:=qz;obtain⟨i,rfl,q⟩:=q1;obtain⟨t,rfl⟩:=r1;exact⟨cz i,H1,I1,.int i t,q⟩
def SlR(X:Cx)(r:V->Option Int->Option Int->Hp->VK->Prop):Prop:=
  ∀(pins:List (aC×gc)) (s:ao) (Y:St) (H:Hp) (x:V) (v vl vu:ai) (lo hi:Option Int) (sl:aC) (Q:VK),Inv X pins Y H s->RelV x v->s.heap.IsSliceOf sl vl vu .none->IsPart vl lo->IsPart vu hi->r x lo hi H Q->
    ∃T id,typeLookup (.type T) "__getitem__"=pure (cz (.builtin id))/\s.TypeIs v T/\aW (a_ X.prog X.w) X.A (rE v (.ref sl)) (EP X pins Y Q) X.xe s
def tSl(r:V->Option Int->Option Int->Hp->VK->Prop)(te:TE)(tl th:TO):TE:=λY H Q=>te Y H λx H1=>tl Y H1 λl H2=>th Y H2 λu H3=>r x l u H3 Q
def b2w(hr:SlR X r)(he:PE X e te)(hl:PO X lo tl)(hu:PO X hi th):PE X (.Subscript e (.Slice lo hi p4 p2) pos) (tSl r te tl th):=by
  intro pins s Y H Q I h;refine Subscript_ (thn (he pins s Y H _ I h) λv s1 qz=>?_);obtain⟨x,H1,I1,r1,q1⟩:=qz;refine wpAny_Slice (thn (hl pins s1 Y H1 _ I1 q1) λvl s2 ⟨l,H2,I2,pl,q2⟩=>thn (hu pins s2 Y H2 _ I2 q2) λvu s3 qz=>?_);obtain⟨u,H3,I3,pu,q3⟩:=qz;rw[evalPart_none];refine aA ?_;have I4:Inv X pins Y H3 {s3 with heap:=s3.heap.push {cls:=.type "slice",data:=.fields #[vl,vu,.none]}}:=I3.kept (t':=s3.toks) λb ob q=>aO _ q
  obtain⟨T,id,hT,ht,hg⟩:=hr pins {s3 with heap:=s3.heap.push {cls:=.type "slice",data:=.fields #[vl,vu,.none]}} Y H3 x v vl vu l u s3.heap.objs.size Q I4 r1 (cM.IsSliceOf.new ..) pl pu q3;show aW (a_ X.prog X.w) X.A (subscriptTail e (.Slice lo hi p4 p2) v (.ref s3.heap.objs.size)) (EP X pins Y Q) X.xe {s3 with heap:=s3.heap.push {cls:=.type "slice",data:=.fields #[vl,vu,.none]}};exact tail_any (ops:=[.ref s3.heap.objs.size,v]) ht hT hg (by with_unfolding_all rfl)
def a7L(xs:List V)(lo hi:Option Int):List V:=(xs.drop (HT.sIx xs.length 0 lo)).take (HT.sIx xs.length xs.length hi-HT.sIx xs.length 0 lo)
def a6p(xs:List V)(lo hi:Option Int):(a7L xs lo hi).length<=xs.length:=by
  unfold a7L;rw[dO,gU];omega
end
def ixN(n:Nat)(i:Int):Option Nat:=if 0<=i then (if i<n then cz i.toNat else p4) else if -(n:Int)<=i then cz (i+n).toNat else p4
def atI{α:Type}(xs:List α)(i:Int):Option α:=(ixN xs.length i).bind λj=>xs[j]?
def a5e(h:ixN n i=cz j):seqIndex? i n=cz j/\j<n/\-(n:Int)<=i/\i<n:=by
  unfold ixN at h;by_cases h0:0<=i
  . rw[aE h0]at h
    by_cases h1:i<n
    . rw[aE h1]at h
      have e:i.toNat=j:=aF h;exact⟨by rw[seqIndex_of h0 h1,e],by omega,by omega,h1⟩
    . rw[aM h1]at h;cases h
  . rw[aM h0]at h
    by_cases h1:-(n:Int)<=i
    . rw[aE h1]at h
      have e:(i+n).toNat=j:=aF h;exact⟨by rw[seqIndex_neg (by omega) h1,e],by omega,h1,by omega⟩
    . rw[aM h1]at h;cases h
def a9o{α:Type}{xs:List α}{i:Int}{v:α}(h:atI xs i=cz v):∃j,seqIndex? i xs.length=cz j/\xs[j]?=cz v/\j<xs.length/\-(xs.length:Int)<=i/\i<xs.length:=by
  unfold atI at h;cases e:ixN xs.length i with
  |none=>rw[e]at h;cases h
  |some j=>
    rw[e]at h;obtain⟨h1,h2,h3,h4⟩:=a5e e;exact⟨j,h1,h,h2,h3,h4⟩
def a2v(b:Expr):Prop:=∀o i,sW b xn o i=operate [o,i] (rE o i)
def IxR(X:Cx)(r:R2):Prop:=
  ∀(value slice:Expr) (pins:List (aC×gc)) (s:ao) (Y:St) (H:Hp) (x y:V) (v u:ai) (Q:VK),Inv X pins Y H s->RelV x v->RelV y u->r x y H Q->
    sW slice xn v u=operate [v,u] (rE v u)->aW (a_ X.prog X.w) X.A (subscriptTail value slice v u) (EP X pins Y Q) X.xe s
def MtR(X:Cx)(id:String)(r:V->List V->Hp->VK->Prop):Prop:=
  ∀(pins:List (aC×gc)) (s:ao) (Y:St) (H:Hp) (x:V) (xs:List V) (v:ai) (us:List ai) (Q:VK),Inv X pins Y H s->RelV x v->Vals xs us->r x xs H Q->
    aW (a_ X.prog X.w) X.A (call (.builtin id) (v::us)) (EP X pins Y Q) X.xe s
section
variable {X:Cx}{a b:Expr}{ta tb:TE}{pos:fV}
def IxR.or(h:IxR X r)(h':IxR X r'):IxR X (λx y H Q=>r x y H Q\/r' x y H Q):=by
  intro value slice pins s Y H x y v u Q I rx ry q hs;rcases q with q|q
  . exact h value slice pins s Y H x y v u Q I rx ry q hs
  . exact h' value slice pins s Y H x y v u Q I rx ry q hs
def a9p(hr:IxR X r)(ha:PE X a ta)(hb:PE X b tb)(hs:a2v b):PE X (.Subscript a b pos) (tOp r ta tb):=by
  intro pins s Y H Q I h;exact Subscript_ (b8J ha hb I h λv u s2 x y H2 I2 rx ry q=>hr a b pins s2 Y H2 x y v u Q I2 rx ry q (hs _ _))
def c1k(K:ag):R2:=λx y H Q=>∃p xs i v,x=.ref p/\y=.int i/\SqL K H p xs/\atI xs i=cz v/\Q v H
def c1l(K:ag):R2:=λx y H Q=>∃p xs i v,x=.ref p/\y=.int i/\SqT K H p xs/\atI xs i=cz v/\Q v H
def b5M:IxR X (c1k X.K):=by
  intro value slice pins s Y H x y v u Q I rx ry h hs;obtain⟨p,xs,i,z,rfl,rfl,hq,he,q⟩:=h;cases rx
  obtain⟨t,rfl⟩:=ry;obtain⟨its,r,pl,hz⟩:=I.list hq;obtain⟨j,h1,h2,h3,h4,h5⟩:=a9o he;obtain⟨w,ew,vX⟩:=r.get h2;have hl:=r.length;have hn:=a1g;have fin:EP X pins Y Q w s:=⟨z,H,I,vX,q⟩;by_cases h0:0<=i
  . have hj:i.toNat=j:=by
      rw[seqIndex_of h0 h5]at h1;exact aF h1
    exact item_listR pl.isList h0 (by omega) (by rw[hj];simpa using ew) fin hs
  . have hj:(i+(its.toArray.size:Int)).toNat=j:=by
      rw[seqIndex_neg (by omega) h4]at h1;rw[bj,<-hl];exact aF h1
    exact subscriptTail_builtinR (x:=w) pl.isList.typeIs slot_list_getitem.lookup
      (wpAny_getItem_list_neg (Q:=λr s'=>r=w/\EP X pins Y Q r s') pl.isList (by omega) (by rw[bj]<;>omega) (by omega) (by rw[hj];simpa using ew) ⟨rfl,fin⟩) hs
def b8V:IxR X (c1l X.K):=by
  intro value slice pins s Y H x y v u Q I rx ry h hs;obtain⟨p,xs,i,z,rfl,rfl,hq,he,q⟩:=h;cases rx
  obtain⟨t,rfl⟩:=ry;obtain⟨its,r,pl,hz⟩:=I.tuple hq;obtain⟨j,h1,h2,h3,h4,h5⟩:=a9o he;obtain⟨w,ew,vX⟩:=r.get h2;have hl:=r.length;have hn:=a1g;have fin:EP X pins Y Q w s:=⟨z,H,I,vX,q⟩;exact subscriptTail_builtinR (x:=w) pl.typeIs slot_tuple_getitem.lookup
    (getItem_tuple (j:=j) (Q:=λr s'=>r=w/\EP X pins Y Q r s') pl (by omega) (by omega) (by rw[bj,<-hl];exact h1) (by simpa using ew) ⟨rfl,fin⟩) hs
def a7M(its:List ai)(n j:Nat)(u:ai):dD (·.setIfInBounds j u) {cls:=.type "list",data:=.seq its.toArray n}={cls:=.type "list",data:=.seq (its.set j u).toArray n}:=by
  simp[dD]
theorem Inv.lst{pins:List (aC×gc)}{Y:St}{H:Hp}{s:ao}{p:aC}{xs:List V}(I:Inv X pins Y H s)(h:H p=cz (.lst xs)) :
    ∃(its:List ai) (n:Nat),Vals xs its/\s.heap.get? p=cz {cls:=.type "list",data:=.seq its.toArray n}/\xs.length<=br:=by
  obtain⟨z,its,n,r,e⟩:=I.hok p _ h;exact⟨its,n,r,e,z⟩
def Inv.lstUpd{its its':List ai}(I:Inv X pins Y H s)(h:H p=cz (.lst xs))
    (ho:s.heap.get? p=cz {cls:=.type "list",data:=.seq its.toArray n}) (hf:f {cls:=.type "list",data:=.seq its.toArray n}={cls:=.type "list",data:=.seq its'.toArray n'}) (r:Vals ys its') (hz:ys.length<=br) (t:Nat) :
    Inv X pins Y (upd H p (.lst ys)) {s with heap:=s.heap.update p f,toks:=t}:=by
  have e:(s.heap.update p f).get? p=cz {cls:=.type "list",data:=.seq its'.toArray n'}:=by
    rw[eO f ho (by rw[hf]<;>rfl),hf]
  refine I.write (x:=p) (e:=p) (by rw[h];trivial) (.inl rfl) (λb u hb q=>(m_ _ _ (fm hb)).trans q) ⟨_,e⟩ ?_;exact⟨hz,its',n',r,e⟩
def c1m:V->V->V->Hp->(Hp->Prop)->Prop:=λo i v H Q=>∃p xs k j,o=.ref p/\i=.int k/\H p=cz (.lst xs)/\ixN xs.length k=cz j/\Q (upd H p (.lst (xs.set j v)))
def set_list:c1a X c1m:=by
  intro pins s Y H o i v ov iv u Q I ro ri rv h;obtain⟨p,xs,k,j,rfl,rfl,hp,hj,q⟩:=h;cases ro
  obtain⟨t,rfl⟩:=ri;obtain⟨its,n,r,ho,hz⟩:=I.lst hp;obtain⟨h1,h2,h3,h4⟩:=a5e hj;have hl:=r.length;have hn:=a1g;have I':Inv X pins Y (upd H p (.lst (xs.set j v))) {s with heap:=s.heap.update p (dD (·.setIfInBounds j u))}:=
    I.lstUpd hp ho (a7M its n j u) (r.set rv j) (by rw[qJ];exact hz) s.toks
  by_cases h0:0<=k
  . have hk:k.toNat=j:=by
      rw[seqIndex_of h0 h4]at h1;exact aF h1
    exact PySem.W.ki_setAt ho h0 (by omega) (by rw[bj,<-hl];exact h4) (by rw[hk];exact⟨_,I',q⟩)
  . have hk:(k+(its.toArray.size:Int)).toNat=j:=by
      rw[seqIndex_neg (by omega) h3]at h1;rw[bj,<-hl];exact aF h1
    exact PySem.W.ki_setBack ho (by omega) (by rw[bj,<-hl];exact h3) (by omega) (by rw[hk];exact⟨_,I',q⟩)
def a5f(lo hi:Option Int)(n:Nat):(jQ lo hi p4 n).1=((HT.sIx n 0 lo:Nat):Int)/\(jQ lo hi p4 n).2.1=((HT.sIx n n hi:Nat):Int)/\(jQ lo hi p4 n).2.2=1:=by
  refine⟨?_,?_,rfl⟩
  . cases lo with
    |none=>simp[jQ,HT.sIx]
    |some i=>
      simp only[jQ,HT.sIx,FN,show (1:Int)>0 by decide,qO];by_cases h:i<0
      . simp only[h,qO]<;>omega
      . simp only[h,cH]<;>omega
  . cases hi with
    |none=>simp[jQ,HT.sIx]
    |some i=>
      simp only[jQ,HT.sIx,FN,show (1:Int)>0 by decide,qO];by_cases h:i<0
      . simp only[h,qO]<;>omega
      . simp only[h,cH]<;>omega
def a3V(its:List ai)(lo hi:Option Int):slicePick its.toArray lo hi p4=((its.drop (HT.sIx its.length 0 lo)).take (HT.sIx its.length its.length hi-HT.sIx its.length 0 lo)).toArray:=by
  obtain⟨h1,h2,h3⟩:=a5f lo hi its.toArray.size;unfold slicePick;rw[h1,h2,h3];simp only[sliceRange_one,pick_run,bj]<;>rfl
def c3h(K:ag):V->Option Int->Option Int->Hp->VK->Prop:=λx lo hi H Q=>∃a xs,x=.ref a/\SqL K H a xs/\∀p,H p=p4->Q (.ref p) (upd H p (.lst (a7L xs lo hi)))
def b5N:SlR X (c3h X.K):=by
  intro pins s Y H x v vl vu lo hi sl Q I rx hs pl pu h;obtain⟨a,xs,rfl,hx,q⟩:=h;cases rx
  obtain⟨its,r,ht,hz⟩:=I.list hx;have hlen:=r.length;refine⟨"list",_,slot_list_getitem.lookup,ht.isList.typeIs,?_⟩;refine wpAny_getItem_list_slice ht.isList hs pl pu .none (by simp) ?_ (by rw[bj]<;>omega);rw[a3V,<-hlen];refine⟨.ref s.heap.objs.size,_,I.laid (t':=s.toks) (o:=.lst (a7L xs lo hi)) (λb ob q=>aO _ q) (az _) ?_,rfl,q _ (I.hok.fresh (az _))⟩;exact⟨cC (a6p xs lo hi) hz,_,0,(r.drop (HT.sIx xs.length 0 lo)).take (HT.sIx xs.length xs.length hi-HT.sIx xs.length 0 lo),bz _ rfl⟩
def a5g:CallR X (.builtin "len") (λxs H Q=>∃p ys,xs=[.ref p]/\(SqL X.K H p ys\/SqT X.K H p ys)/\Q (.int ys.length) H):=by
  intro pins s Y H xs us Q I r h;obtain⟨p,ys,rfl,hq,q⟩:=h;obtain⟨u,rfl,rx⟩:=vals1 r;cases rx
  have hn:=a1g;rcases hq with hq|hq
  . obtain⟨its,r',pl,hz⟩:=I.list hq
    have hlen:=r'.length;exact Calls.call_len_list pl.isList (by simp only[bj]<;>omega) ⟨.int ys.length,H,I.tok _,⟨s.toks+1,by rw[bj,hlen]⟩,q⟩
  . obtain⟨its,r',pl,hz⟩:=I.tuple hq
    have hlen:=r'.length;exact len_tuple pl (by simp only[bj]<;>omega) ⟨.int ys.length,H,I.tok _,⟨s.toks+1,by rw[bj,hlen]⟩,q⟩
def a5h:CallR X (.builtin "len") (λxs H Q=>∃z,xs=[.str z]/\z.length<=br/\Q (.int z.length) H):=by
  intro pins s Y H xs us Q I r h;obtain⟨z,rfl,hz,q⟩:=h;obtain⟨u,rfl,t,rfl⟩:=vals1 r;have hn:=a1g;exact len_str (by omega) ⟨.int z.length,H,I.tok _,⟨_,rfl⟩,q⟩
def CallR.or(h:CallR X f r)(h':CallR X f r'):CallR X f (λxs H Q=>r xs H Q\/r' xs H Q):=by
  intro pins s Y H xs us Q I rs q;rcases q with q|q
  . exact h pins s Y H xs us Q I rs q
  . exact h' pins s Y H xs us Q I rs q
def a5i:CallR X (.type "list") (λxs H Q=>∃p ys,xs=[.ref p]/\(SqL X.K H p ys\/SqT X.K H p ys)/\∀l,H l=p4->Q (.ref l) (upd H l (.lst ys))):=by
  intro pins s Y H xs us Q I r h;obtain⟨p,ys,rfl,hq,q⟩:=h;obtain⟨u,rfl,rx⟩:=vals1 r;cases rx
  have fin:∀(its:List ai),Vals ys its->ys.length<=br->∀(h':cM) (c':Nat),(∀b o',s.heap.get? b=cz o'->h'.get? b=cz o')->
      h'.get? s.heap.objs.size=cz {cls:=.type "list",dict:=p4,data:=.seq its.toArray c',slots:=#[]}->EP X pins Y Q (.ref s.heap.objs.size) {s with heap:=h'}:=λits r' hz h' c' kp e=>
    ⟨.ref s.heap.objs.size,_,I.laid (t':=s.toks) kp (az _) (show ObjOk X.prog X.w _ h' _ (.lst ys) from⟨hz,its,c',r',e⟩),rfl,q _ (I.hok.fresh (az _))⟩
  rcases hq with hq|hq
  . obtain⟨its,r',pl,hz⟩:=I.list hq
    have hlen:=r'.length;obtain⟨o,ho,hc,n,hd⟩:=pl.isList;exact call_list_seq p (.inl rfl) ho hc hd (λh' c' kp e=>fin its r' hz h' c' kp e) (by simp only[bj]<;>omega)
  . obtain⟨its,r',pl,hz⟩:=I.tuple hq
    have hlen:=r'.length;obtain⟨o,ho,hc,n,hd⟩:=pl;exact call_list_seq p (.inr rfl) ho hc hd (λh' c' kp e=>fin its r' hz h' c' kp e) (by simp only[bj]<;>omega)
def Y9:CallR X (.type "tuple") (λxs H Q=>∃p ys,xs=[.ref p]/\((SqL X.K H p ys/\∀l,H l=p4->Q (.ref l) (upd H l (.tup ys)))\/(SqT X.K H p ys/\Q (.ref p) H))):=by
  intro pins s Y H xs us Q I r h;obtain⟨p,ys,rfl,h⟩:=h;obtain⟨u,rfl,rx⟩:=vals1 r;cases rx
  rcases h with⟨hq,q⟩|⟨hq,q⟩
  . obtain⟨its,r',pl,hz⟩:=I.list hq
    have hlen:=r'.length;refine call_tuple_list pl.isList (λh' kp=>?_) (by simp only[bj]<;>omega);have I1:Inv X pins Y H {s with heap:=h'}:=I.kept (t':=s.toks) kp;have I2:Inv X pins Y (upd H h'.objs.size (.tup ys)) {s with heap:=h'.push {cls:=.type "tuple",data:=.seq its.toArray}}:=
      I1.laid (t':=s.toks) (λb o e=>aO _ e) (az _) (show ObjOk X.prog X.w _ _ _ (.tup ys) from⟨hz,its,r',IsTup.new _ _⟩)
    exact⟨.ref h'.objs.size,_,I2,rfl,q _ (I1.hok.fresh (az _))⟩
  . obtain⟨its,r',pl,hz⟩:=I.tuple hq
    exact call_tuple_same pl ⟨.ref p,H,I,rfl,q⟩
def tyV(K:ag)(T:String)(x:V)(H:Hp):Prop:=match x with
  |.str _=>T="str"
  |.int _=>T="int"
  |.ref p=>(T="list"/\∃xs,SqL K H p xs)\/(T="tuple"/\∃o,K.lookup p=cz o/\o.cls=.type "tuple"/\o.dict=p4)\/
      (T="dict"/\((∃kvs,H p=cz (.dK kvs))\/∃kvs,H p=cz (.dT kvs)))\/(T="set"/\∃S n,H p=cz (.set S n))
  |_=>False
def b8W(I:Inv X pins Y H s)(r:RelV x v)(ty:tyV X.K T x H) :
    s.TypeIs v T/\∀a,v=.ref a->∃ob,s.heap.get? a=cz ob/\ob.dict=p4:=by
  cases x with
  |str z=>
    obtain⟨t,rfl⟩:=r;cases (show T="str" from ty)
    exact⟨typeIs_str s z t,λ_ e=>nomatch e⟩
  |int i=>
    obtain⟨t,rfl⟩:=r;cases (show T="int" from ty)
    exact⟨typeIs_int s i t,λ_ e=>nomatch e⟩
  |ref p=>
    cases r
    rcases ty with⟨rfl,xs,hq⟩|⟨rfl,o,hk,hc,hd⟩|⟨rfl,hk⟩|⟨rfl,S,n,hk⟩
    . obtain⟨its,_,pl,_⟩:=I.list hq
      refine⟨pl.isList.typeIs,λa e=>?_⟩;cases e
      obtain⟨o,n,e,c,hd,_⟩:=pl;exact⟨o,e,hd⟩
    . refine⟨⟨o,I.kIn p o hk,hc⟩,λa e=>?_⟩
      cases e
      exact⟨o,I.kIn _ o hk,hd⟩
    . have z:∃o,s.heap.get? p=cz o/\o.ExactDict:=by
        rcases hk with⟨kvs,hk⟩|⟨kvs,hk⟩
        . obtain⟨_,_,_,_,o,_,_,e,ex,_⟩:=I.hok p _ hk
          exact⟨o,e,ex⟩
        . obtain⟨_,_,_,_,o,_,_,e,ex,_⟩:=I.hok p _ hk
          exact⟨o,e,ex⟩
      obtain⟨o,e,ex⟩:=z;refine⟨⟨o,e,ex.1⟩,λa e2=>?_⟩;cases e2
      exact⟨o,e,ex.2.1⟩
    . obtain⟨o,_,_,_,e,ex,_⟩:=I.hok p _ hk
      refine⟨⟨o,e,ex.1⟩,λa e2=>?_⟩;cases e2
      exact⟨o,e,ex.2.1⟩
  |_=>exact cO ty
def tBM(K:ag)(T:String)(r:V->List V->Hp->VK->Prop)(to:TE)(t:TA):TE:=λY H Q=>to Y H λx H1=>tyV K T x H1/\t Y H1 λxs H2=>r x xs H2 Q
variable {o e:Expr}{es:List Expr}{to:TE}{t:TA}{name:bM}{apos cV:fV}{T id:String}{r:V->List V->Hp->VK->Prop}
def a4n(pa:PlainAttrs T)(slot:Slot T name id)(zo:typeOf (.builtin id)=pure (.type "method_descriptor"))(hm:MtR X id r)(ho:PE X o to)(ha:PA X (e::es) t)
    (fN:dZ o name X.env (cI o X.env)=cI o X.env:=by rfl)
    (iT:((cD cV (au (e::es) X.env)).all (λx=>!x.1)&&(eV cV (dC [] X.env)).all (λx=>x.1.isSome)
      && decide ((e::es).length+([]:List eL).length+(if ([]:List eL).isEmpty then 0 else 1)<30))=rp:=by rfl)
    (fM:(apos.endLine==cV.line)=rp:=by rfl) (hs:au (e::es) X.env=(xn,cI e X.env)::au es X.env:=by rfl) (eB:(cD cV (au es X.env)).any (·.1)=xn:=by rfl) :
    PE X (.Call (.Attribute o name apos) (e::es) [] cV) (tBM X.K T r to t):=by
  intro pins s Y H Q I h;refine Co fN iT fM rfl (thn (ho pins s Y H _ I h) λv s1 qz=>?_);obtain⟨x,H1,I1,r1,ty,q1⟩:=qz;obtain⟨h1,h2⟩:=b8W I1 r1 ty;refine⟨T,id,pa,slot,zo,h1,h2,?_⟩;have hA:=ha cV pins s1 Y H1 _ I1 q1;rw[hs]at hA ⊢;refine nc (by show (xn||(cD cV (au es X.env)).any (·.1))=xn;rw[eB]<;>rfl) (oK ?_);exact thn hA λus s2 ⟨vs,H2,I2,r2,q2⟩=>hm pins s2 Y H2 x vs v us Q I2 r1 r2 q2
end
def MtM(X:Cx)(id:String)(r:V->List V->Hp->VK->Prop):Prop:=
  ∀(pins:List (aC×gc)) (s:ao) (Y:St) (H:Hp) (x:V) (xs:List V) (v:ai) (us:List ai) (Q:VK),Inv X pins Y H s->RelV x v->Vals xs us->r x xs H Q->
    aW (a_ X.prog X.w) X.A (call (.builtin id) (v::us)) (EP X pins Y Q) X.xe s
def Vals.one{x:V}{us:List ai}(h:Vals [x] us):∃u,us=[u]/\RelV x u:=by
  cases h with
  |cons r t=>cases t;exact⟨_,rfl,r⟩
section
variable {X:Cx}{pins:List (aC×gc)}{Y:St}{H:Hp}{s:ao}{l b:aC}{xs ys zs:List V}
def Inv.lset{its its':List ai}(I:Inv X pins Y H s)(hH:H l=cz (.lst xs))
    (e:s.heap.get? l=cz {cls:=.type "list",data:=.seq its.toArray n}) (hf:f its.toArray=its'.toArray) (hv:Vals ys its') (hz:ys.length<=br) :
    Inv X pins Y (upd H l (.lst ys)) {s with heap:=s.heap.update l (dD f),toks:=t'}:=by
  have q:=PySem.IsL.update e f;rw[hf]at q;refine I.write (x:=l) (e:=l) (by rw[hH];exact trivial) (.inl rfl) (λb' u hb hu=>(m_ s.heap (dD f) (fm hb)).trans hu) ⟨_,q⟩ ?_;exact⟨hz,its',_,hv,q⟩
def Inv.lnew(I:Inv X pins Y H s)(hv:Vals ys its)(hz:ys.length<=br) :
    Inv X pins Y (upd H s.heap.objs.size (.lst ys)) {s with heap:=s.heap.push {cls:=.type "list",data:=.seq its.toArray},toks:=t'}:=
  I.laid (λ_ _ q=>aO _ q) (az _) ⟨hz,its,0,hv,bz _ rfl⟩
theorem Inv.fresh(I:Inv X pins Y H s):H s.heap.objs.size=p4:=I.hok.fresh (az _)
def Inv.lstM(I:Inv X pins Y H s)(hH:H l=cz (.lst xs)):xs.length<=br/\∃(its:List ai) (n:Nat),Vals xs its/\xs.length=its.length/\s.heap.get? l=cz {cls:=.type "list",data:=.seq its.toArray n}:=by
  obtain⟨z,its,n,r,e⟩:=I.hok l _ hH;exact⟨z,its,n,r,r.length,e⟩
def b2x(h:n<=br):ml n=xn:=by
  unfold ml;exact aZ (by omega)
end
section
variable {X:Cx}
def b5O:V->List V->Hp->VK->Prop:=λx vs H Q=>∃l xs y,x=.ref l/\vs=[y]/\H l=cz (.lst xs)/\xs.length<br/\Q .non (upd H l (.lst (xs++[y])))
def X3:MtM X "list.append" b5O:=by
  intro pins s Y H x vs v us Q I rx rv h;obtain⟨l,xs,y,rfl,rfl,hH,hz,q⟩:=h;cases rx
  obtain⟨u,rfl,ru⟩:=rv.one;obtain⟨z,its,n,r,hl,e⟩:=I.lstM hH;refine call_meets F.slot_list_append ⟨_,e,rfl⟩ F.entry_list_append (F.args_list_append_2 _ _) (PySem.list_append l its.toArray n u (by rw[bj];omega)) ⟨e,?_⟩;refine⟨.non,_,I.lset (its':=its++[u]) hH e (by simp) (r.append (.cons ru .nil)) ?_,rfl,q⟩;rw[av,bZ];omega
def b5P:V->List V->Hp->VK->Prop:=λx vs H Q=>∃l b xs zs,x=.ref l/\vs=[.ref b]/\H l=cz (.lst xs)/\H b=cz (.lst zs)/\xs.length+zs.length<=br/\Q .non (upd H l (.lst (xs++zs)))
def a4o:MtM X "list.extend" b5P:=by
  intro pins s Y H x vs v us Q I rx rv h;obtain⟨l,b,xs,zs,rfl,rfl,hH,hB,hz,q⟩:=h;cases rx
  obtain⟨u,rfl,ru⟩:=rv.one;cases ru
  obtain⟨z,its,n,r,hl,e⟩:=I.lstM hH;obtain⟨z2,oW,n2,r2,sv,e2⟩:=I.lstM hB;have oN:its.toArray.size+oW.toArray.size<=br:=by rw[bj,bj];omega
  have wR:¬ (!its.toArray.isEmpty&&ml (its.toArray.size+oW.toArray.size))=rp:=by
    rw[b2x oN,Bool.and_false];exact cu
  refine call_meets F.slot_list_extend ⟨_,e,rfl⟩ F.entry_list_extend (F.args_list_extend_2 _ _)
    (AutoSeq1.list_extend_list_list_0 l its.toArray n b oW.toArray n2 wR (by rw[bj];omega) (by omega)) ⟨e,e2,?_⟩
  refine⟨.non,_,I.lset (its':=its++oW) hH e (by simp) (r.append r2) ?_,rfl,q⟩;rw[av];omega
end
end L2
namespace Att
open PySem.W PySem.Calls PyProof.Rows
def a2p:∀(ns:List Int) (vs:List ai),WellAll P h vs (ns.map WData.int)->IntsAre vs ns:=by
  intro ns
  induction ns with
  |nil=>
    intro vs w;rw[cX]at w;cases w
    exact .nil
  |cons n ns ih=>
    intro vs w;rw[aB]at w;cases w with
    |cons a b=>
      cases a
      exact .cons _ _ (ih _ b)
def b0E{l:OpenLaw}(hn:l.most=cz n) 
    (oe:l.row.toRowW.claim.pre args=rp) (zj:WellAll P h vals args) :
    ∃a vs ns,vals=[bt a]/\args=[WData.list (ns.map WData.int)]/\h.get? a=cz {cls:=.type "list",data:=.seq vs.toArray}/\IntsAre vs ns/\ns.length<=n:=by
  have Dv:WShape.hasAll [] args [.list .int]=rp:=(pre_splitW oe).1;have hc:l.pre.holds [] {args:=args}=rp:=(pre_splitW oe).2;obtain⟨d,r,rfl,h1,h2⟩:=hasAllW_cons Dv;obtain rfl:=hasAllW_nil h2;obtain⟨xs,rfl,h3⟩:=hasW_list h1;obtain⟨ns,rfl⟩:=items_int h3;have hlen:ns.length<=n:=by
    unfold OpenLaw.pre at hc;have h4:(WTm.not (.lt (.lit (.int (n:Int))) (.len (.arg 0)))).holds [] {args:=[.list (ns.map .int)]}=rp:=by
      have h4:=(holds_andW hc).1;rw[hn]at h4;exact h4
    have h5:=condW_of h4 (w_not (w_lt w_lit (w_len_list (w_arg rfl))));rw[af]at h5;refine Nat.le_of_not_lt λq=>?_
    have q':(n:Int)<((ns.length:Nat):Int):=by omega
    first
      | (rw[aV q']at h5;exact absurd h5 (by decide))
      | (simp at h5;omega)
  cases zj with
  |cons w1 w2=>
    cases w2
    cases w1 with
    |list ho gR=>exact⟨_,_,ns,rfl,rfl,ho,a2p ns _ gR,hlen⟩
def b0F(l:OpenLaw)(args:List WData):l.row.toRowW.claim.post args (.bool rp) args=rp:=
  postW_of (r:=l.row.toRowW) (X:=(rp==rp))
    (show WShape.has [] (.bool rp) .bool=rp by first|rfl|decide|simp[WShape.has,WShape.arms,WShape.armsAll])
    (show (WTm.eq .res (.lit (.bool rp))).value [] {args:=args,res:=cz (.bool rp),after:=args}=cz (.bool (rp==rp)) from w_eq_bool (w_res rfl) w_lit) rfl
def attach_call{l:OpenLaw}{d:DefRec}
    (hn:l.most=cz n) (xj:d.params.defaults=[])
    (call:∀(w:bQ) (s₀ s₁:ao) (mg mb:bM->Option ai) (fa:aC) (o:gc) (pm cd doc:ai) (a:aC) (vs:List ai) (ns:List Int),
      Ground q loose [] XP w s₀ mg mb s₁.heap->YP w s₁.heap->
      s₁.heap.get? fa=cz o->o.data=.func (docDef d.name d.params d.body d.scope pm cd doc)->s₁.heap.CodeRec cd d.name->mg d.name=cz (.ref fa)->
      s₁.heap.get? a=cz {cls:=.type "list",data:=.seq vs.toArray}->IntsAre vs ns->ns.length<=n->s₁.gens=#[]->
      kJ (a_ l.prog w) oP (.call (.ref fa) ⟨[.ref a],[]⟩) (λr s'=>r=.ok (.ret (.bool rp))/\OldK s₁.heap s'.heap/\s'.os=s₁.os/\p_ s'.gens) s₁) :
    WalkO q loose XP YP l.row.toRowW d [] (λf vs=>AG f vs):=by
  intro w s₀ s₁ mg mb G yn fa o pm cd doc dV kV ho hd nI hD wQ hg args vals as oe wU Gx zj hlo;obtain rfl:dV=.none:=Dflts.none hD xj;obtain rfl:kV=.none:=Dflts.noKw hD;obtain⟨a,vs,ns,rfl,rfl,uz,hints,hlen⟩:=b0E hn oe zj;refine enter_call (fX (call w s₀ s₁ mg mb fa o pm cd doc a vs ns G yn ho (fd_plain hd) nI wQ uz hints hlen hg) λr s' hq=>?_);obtain⟨rfl,h2,h3,h4⟩:=hq;exact⟨.inl ⟨.bool rp,.bool rp,[],rfl,λ_=>rfl,.bool rp,b0F l _,λ_=>⟨iH,λ_ hm=>(nomatch hm)⟩⟩,h2,h3,h4⟩
section
variable {prog:bA}{w:bQ}{A:bN}{E:ai->ao->Prop}{s:ao}{K:Frag}
def ledger(h:cM)(L d:aC):List (aC×gc):=(aw h.objs.size).filterMap λa=>if a=L\/a=d then p4 else (h.get? a).map λo=>(a,o)
end
end Att
namespace L2
open PySem.Spec PyProof.Rows
theorem vals_ints:∀{vs:List ai} {ns:List Int},IntsAre vs ns->Vals (ns.map V.int) vs
  |_,_,.nil=>.nil
  |_,_,.cons n t h=>.cons ⟨t,rfl⟩ (vals_ints h)
abbrev KOf{K:ag}{h:cM}(_:K.In h):ag:=K
end L2
namespace L2
open PySem.Spec PyProof.Rows
def Q2(s:iO):oS:=match s with
  |.FunctionDef _ a _ _ _ _ _ _ _ _=>a
  |_=>{posonlyargs:=[],args:=[],vararg:=p4,kwonlyargs:=[],kw_defaults:=[],kwarg:=p4,defaults:=[]}
def u7(s:iO):List iO:=match s with
  |.FunctionDef _ _ b _ _ _ _ _ _ _=>b
  |_=>[]
def f8(s:iO):gL:=match s with
  |.FunctionDef _ _ _ _ _ _ sc _ _ _=>sc
  |_=>{kind:=.function,names:=[],isGenerator:=xn,isCoroutine:=xn}
abbrev CX0:CXT:=λ_ _ _ _ _ _=>False
abbrev E0:XK:=λ_ _ _=>False
def c1n:a7J CX0 X E0:=λ_ _ _ _ _ _ _ h=>h.elim
structure Fun (K:ag) (x qual:bM) (st:iO) (f:aC) (fd:dU):Prop where
  ex:∃(oc:ai) (od:Option aC) (kV doc pm:ai) (an:Option aC) (gH ct:ai) (qm:Array (Option ai)),
    fd=gf x qual (Q2 st) (u7 st) (f8 st) .none kV doc pm an gH ct/\K.lookup f=cz ⟨oc,od,.func fd,qm⟩/\mL K gH qual=rp
  kp:fZ K (.ref f)=rp
section
variable {P:bA}{w:bQ}{K:ag}{mg:bM->Option ai}{base:cM}
def Fun.ok{x qual:bM}{st:iO}{f:aC}{fd:dU}{N ps:List bM}{k:Nat}{sp:Sp}(F:Fun K x qual st f fd)(S:FnScope N ps (f8 st))(len:∀vs H Q E,sp vs H Q E->vs.length=ps.length)
    (rq:∀(gH:ai) (A:bN) (outer:List pH) (s:ao) (H:Hp) (vs:List V) (Q:VK) (E:XK),Room k (A.deeper (jD qual (f8 st) s.heap.objs.size f gH))->sp vs H Q E->
      ∃t,PSs (a0z CX0 P w K mg base N qual (f8 st) f gH A outer s H E).nox (u7 st) t/\t {nx:=λ_ H'=>Q .non H',rt:=Q} (start N vs) H):FnOk P w K mg base CX0 (k+1) f fd ps sp:=by
  obtain⟨oc,od,kV,doc,pm,an,gH,ct,qm,rfl,lk,nI⟩:=F.ex;refine b7X lk nI S len λA outer s H vs Q E hr qZ=>?_
  obtain⟨t,h,q⟩:=rq gH A outer s H vs Q E hr qZ;exact⟨t,h.nox,q⟩
def Fun.binds{x qual:bM}{st:iO}{f:aC}{fd:dU}{ps:List bM}(F:Fun K x qual st f fd)
    (h:∀(kV doc pm:ai) (an:Option aC) (gH ct:ai) (us:List ai),us.length=ps.length->rH (gf x qual (Q2 st) (u7 st) (f8 st) .none kV doc pm an gH ct) ⟨us,[]⟩=pure (ps.zip us)):Binds K fd ps []:=by
  obtain⟨oc,od,kV,doc,pm,an,gH,ct,qm,rfl,lk,nI⟩:=F.ex;exact .all (h kV doc pm an gH ct)
def b8X{x qual:bM}{st:iO}{f:aC}{oc:ai}{od an:Option aC}{qm:Array (Option ai)}{kV doc pm gH ct:ai}(l:K.lookup f=cz ⟨oc,od,.func (gf x qual (Q2 st) (u7 st) (f8 st) .none kV doc pm an gH ct),qm⟩)
    (c:mL K gH qual=rp) (k:fZ K (.ref f)=rp):Fun K x qual st f (gf x qual (Q2 st) (u7 st) (f8 st) .none kV doc pm an gH ct):=⟨⟨oc,od,kV,doc,pm,an,gH,ct,qm,rfl,l,c⟩,k⟩
end
def X4(h:n<=1000):n<br:=kc h (by decide)
section
variable {X:Cx}
def pv(i:Nat)(hN:X.N[i]?=cz x:=by rfl)(hv:autoParam (NmV X x) ZY._auto_1):PE X (.Name x pos) (c0S i):=C6 hN hv.1 hv.2.1 hv.2.2
end
def a6q{A B:Prop}(h:B):if xn=rp then A else B:=by
  rw[aM cu];exact h
def a6r{A B:Prop}(h:A):if rp=rp then A else B:=by
  rw[aE rfl];exact h
def Same(H H':Hp):Prop:=∀b o,H b=cz o->H' b=cz o
def Same.refl(H:Hp):Same H H:=λ_ _ h=>h
def Same.trans(a:Same H H1)(b:Same H1 H2):Same H H2:=λc o h=>b c o (a c o h)
def Same.free{H H':Hp}(e:Same H H'){l:aC}(h:H' l=Option.none):H l=Option.none:=by
  cases q:H l with
  |none=>rfl
  |some o=>
    rw[e l o q]at h;cases h
end L2
set_option maxHeartbeats 4000000
namespace L2
open PySem.Spec PyProof.Rows
def L7(X:Cx)(N:List bM)(scope:gL)(cl:List (bM×aC))(C:aC)(s:ao)(H:Hp)(fp:List aC):Cx:=
 {X with N:=N,s₀:=s,H₀:=H,env:=compEnvC scope cl C X.env,outer:=X.stack,ex:=fp,fn:=λ_=>xn,xe:=λ_ _=>False}
structure CompIn (X:Cx) (N:List bM) (scope:gL) (cl:List (bM×aC)) (τ:St->St):Prop where
 clos:qD scope X.env=pure cl
 kind:scope.kind=.function
 ncell:∀y∈scope.names,y.2≠.cell
 names:∀y∈scope.names,y.2=.local->scope.names.lookup y.1=cz .local
 sub:∀x c,cl.lookup x=cz c->X.env.cells.lookup x=cz c
 has:∀y∈scope.names,y.2=.free->∃c,cl.lookup y.1=cz c
 tlen:∀Y,(τ Y).length=N.length
 tval:∀(Y:St) (i:Nat) (x:bM) (v:V),N[i]?=cz x->(τ Y)[i]?=cz (cz v)->∃j:Nat,X.N[j]?=cz x/\Y[j]?=cz (cz v)/\scope.names.lookup x=cz .free/\(X.env.kindOf x=cz .cell\/X.env.kindOf x=cz .free)
def a0B{scope:gL}(hn:∀y∈scope.names,y.2≠.cell)(h:(mQ scope env).names.lookup x=cz .cell\/(mQ scope env).names.lookup x=cz .free):∃y∈scope.names,y.1=x/\y.2=.free:=by
 have key:∀k,(mQ scope env).names.lookup x=cz k->k=.cell\/k=.free->∃y∈scope.names,y.1=x/\y.2=.free:=λk e hk=>by
  have hm:=cB e;unfold mQ at hm;obtain⟨⟨n,k'⟩,hy,e2⟩:=aG.mp hm
  dsimp only at e2
  by_cases hc:(k'==fJ&&env.scope.kind==.function&&env.kindOf n==cz .cell)=rp
  ·rw[aE hc]at e2;cases e2
   rw[aL,aL]at hc;exact⟨_,hy,rfl,by simpa using hc.1.1⟩
  ·rw[aM hc]at e2;cases e2
   rcases hk with rfl|rfl
   ·exact absurd rfl (hn _ hy)
   ·exact⟨_,hy,rfl,rfl⟩
 rcases h with h|h
 ·exact key _ h (.inl rfl)
 ·exact key _ h (.inr rfl)
def a5j{scope:gL}(h:scope.names.lookup x=cz .free):(mQ scope env).names.lookup x=cz .cell\/(mQ scope env).names.lookup x=cz .free:=by
 have key:∀names:List (bM×jn),names.lookup x=cz .free->
   (names.map λ(n,k)=>if (k==fJ&&env.scope.kind==.function&&env.kindOf n==cz .cell) then (n,jn.cell) else (n,k)).lookup x=cz .cell\/
   (names.map λ(n,k)=>if (k==fJ&&env.scope.kind==.function&&env.kindOf n==cz .cell) then (n,jn.cell) else (n,k)).lookup x=cz .free:=by
  intro names
  induction names with
  |nil=>intro h;cases h
  |cons z r ih=>
   obtain⟨n,k⟩:=z;intro h;rw[aB]
   dsimp only
   rw[f_]at h;cases hx:x==n with
   |true=>
    rw[hx]at h;have hk:k=.free:=by simpa using h
    subst hk;by_cases hc:(fJ==fJ&&env.scope.kind==.function&&env.kindOf n==cz .cell)=rp
    ·rw[aE hc,f_,hx];exact .inl rfl
    ·rw[aM hc,f_,hx];exact .inr rfl
   |false=>
    rw[hx]at h;by_cases hc:(k==fJ&&env.scope.kind==.function&&env.kindOf n==cz .cell)=rp
    ·rw[aE hc,f_,hx];exact ih h
    ·rw[aM hc,f_,hx];exact ih h
 exact key _ h
structure Has (P:bA) (w:bQ) (K:ag) (mg:bM->Option ai) (base:cM) (x:bM) (k:Nat) (ps:List bM) (sp:Sp):Prop where
 ex:∃f fd,FnOk P w K mg base CX0 k f fd ps sp/\Binds K fd ps []/\fZ K (.ref f)=rp/\mg x=cz (.ref f)
def Has.up{P:bA}{w:bQ}{K:ag}{mg:bM->Option ai}{base:cM}{x:bM}{j k:Nat}{ps:List bM}{sp:Sp}(h:Has P w K mg base x j ps sp)(l:j<=k):Has P w K mg base x k ps sp:=by
 obtain⟨f,fd,a,b⟩:=h.ex;exact⟨f,fd,a.mono l,b⟩
section
variable {X:Cx}{k:Nat}{ps:List bM}{sp:Sp}{x:bM}{p pos:fV}{e:Expr}{es:List Expr}{t:TA}
def a5k(h:Has X.prog X.w X.K X.mg X.base x k ps sp)(hr:Room k X.A)(ha:PA X (e::es) t)(hg:Gl X x:=by rfl)(mH:(x==("__debug__":bM))=xn:=by decide)
  (he:au (e::es) X.env=(xn,cI e X.env)::au es X.env:=by rfl) (gK:(cD pos (au es X.env)).any (·.1)=xn:=by rfl):PE X (.Call (.Name x p) (e::es) [] pos) (b7W sp [] E0 t):=by
 obtain⟨f,fd,F,b,kp,m⟩:=h.ex;exact b5H F hr hg m kp b .nil c1n ha mH he gK
end
mutual
def Den(H:Hp):V->bw->Prop
 |v,.none=>v=.non
 |v,.bool b=>v=.bl b
 |v,.int i=>v=.int i
 |v,.str x=>v=.str x
 |v,.list ds=>∃a xs,v=.ref a/\H a=cz (.lst xs)/\DenAll H xs ds
 |v,.tuple ds=>∃a xs,v=.ref a/\H a=cz (.tup xs)/\DenAll H xs ds
 |v,.dict kvs=>kvs=[]/\∃a,v=.ref a/\H a=cz (.dK [])
def DenAll(H:Hp):List V->List bw->Prop
 |xs,[]=>xs=[]
 |xs,d::ds=>∃v r,xs=v::r/\Den H v d/\DenAll H r ds
end
mutual
theorem Den.mono{H H':Hp}(e:Same H H'):∀(d:bw) {v:V},Den H v d->Den H' v d
 |.none,_,h=>by simpa only [Den]using h
 |.bool _,_,h=>by simpa only [Den]using h
 |.int _,_,h=>by simpa only [Den]using h
 |.str _,_,h=>by simpa only [Den]using h
 |.list ds,_,h=>by
  simp only[Den]at h ⊢;obtain⟨a,xs,h1,h2,h3⟩:=h;exact⟨a,xs,h1,e _ _ h2,DenAll.mono e ds h3⟩
 |.tuple ds,_,h=>by
  simp only[Den]at h ⊢;obtain⟨a,xs,h1,h2,h3⟩:=h;exact⟨a,xs,h1,e _ _ h2,DenAll.mono e ds h3⟩
 |.dict _,_,h=>by
  simp only[Den]at h ⊢;obtain⟨h0,a,h1,h2⟩:=h;exact⟨h0,a,h1,e _ _ h2⟩
theorem DenAll.mono{H H':Hp}(e:Same H H'):∀(ds:List bw) {xs:List V},DenAll H xs ds->DenAll H' xs ds
 |[],_,h=>by simpa only [DenAll]using h
 |d::ds,_,h=>by
  simp only[DenAll]at h ⊢;obtain⟨v,r,h1,h2,h3⟩:=h;exact⟨v,r,h1,Den.mono e d h2,DenAll.mono e ds h3⟩
end
def Den.up{H H':Hp}{d:bw}{v:V}(h:Den H v d)(e:Same H H'):Den H' v d:=Den.mono e d h
def DenAll.up{H H':Hp}{ds:List bw}{xs:List V}(h:DenAll H xs ds)(e:Same H H'):DenAll H' xs ds:=DenAll.mono e ds h
section
variable {H:Hp}
def den_none:Den H .non .none:=by simp only[Den]
def den_bool{b:Bool}:Den H (.bl b) (.bool b):=by simp only[Den]
def den_int{i:Int}:Den H (.int i) (.int i):=by simp only[Den]
def den_list{a:aC}{xs:List V}{ds:List bw}(h:H a=cz (.lst xs))(q:DenAll H xs ds):Den H (.ref a) (.list ds):=by
 simp only[Den];exact⟨a,xs,rfl,h,q⟩
def den_tup{a:aC}{xs:List V}{ds:List bw}(h:H a=cz (.tup xs))(q:DenAll H xs ds):Den H (.ref a) (.tuple ds):=by
 simp only[Den];exact⟨a,xs,rfl,h,q⟩
def denAll_nil:DenAll H [] []:=by simp only[DenAll]
def denAll_cons{v:V}{d:bw}{xs:List V}{ds:List bw}(h:Den H v d)(q:DenAll H xs ds):DenAll H (v::xs) (d::ds):=by
 simp only[DenAll];exact⟨v,xs,rfl,h,q⟩
def Den.list_inv{v:V}{ds:List bw}(h:Den H v (.list ds)):∃a xs,v=.ref a/\H a=cz (.lst xs)/\DenAll H xs ds:=by simpa only [Den]using h
def Den.tup_inv{v:V}{ds:List bw}(h:Den H v (.tuple ds)):∃a xs,v=.ref a/\H a=cz (.tup xs)/\DenAll H xs ds:=by simpa only [Den]using h
def Den.int_inv{v:V}{i:Int}(h:Den H v (.int i)):v=.int i:=by simpa only [Den]using h
def DenAll.cons_inv{xs:List V}{d:bw}{ds:List bw}(h:DenAll H xs (d::ds)):∃v r,xs=v::r/\Den H v d/\DenAll H r ds:=by simpa only [DenAll]using h
def DenAll.nil_inv{xs:List V}(h:DenAll H xs []):xs=[]:=by simpa only [DenAll]using h
theorem DenAll.length:∀{ds:List bw} {xs:List V},DenAll H xs ds->xs.length=ds.length
 |[],_,h=>by rw[h.nil_inv];rfl
 |d::ds,_,h=>by
  obtain⟨v,r,rfl,_,h⟩:=h.cons_inv;rw[aS,aS,DenAll.length h]
theorem DenAll.get:∀{ds:List bw} {xs:List V} {i:Nat} {d:bw},DenAll H xs ds->ds[i]?=cz d->∃v,xs[i]?=cz v/\Den H v d
 |[],_,i,d,_,e=>by simp at e
 |d0::ds,_,0,d,h,e=>by
  obtain⟨v,r,rfl,h1,_⟩:=h.cons_inv;have:d0=d:=by simpa using e
  subst this;exact⟨v,rfl,h1⟩
 |d0::ds,_,i+1,d,h,e=>by
  obtain⟨v,r,rfl,_,h1⟩:=h.cons_inv;obtain⟨u,h2,h3⟩:=DenAll.get (i:=i) h1 (by simpa using e);exact⟨u,by simpa using h2,h3⟩
def DenAll.getV{ds:List bw}{xs:List V}{i:Nat}{v:V}(h:DenAll H xs ds)(e:xs[i]?=cz v):∃d,ds[i]?=cz d/\Den H v d:=by
 have hi:=(aD.mp e).1;rw[h.length]at hi;obtain⟨u,h1,h2⟩:=h.get (ab hi);rw[e]at h1;cases h1
 exact⟨_,ab hi,h2⟩
theorem DenAll.append:∀{ds:List bw} {xs:List V} {es:List bw} {ys:List V},DenAll H xs ds->DenAll H ys es->DenAll H (xs++ys) (ds++es)
 |[],_,_,_,h,q=>by rw[h.nil_inv];exact q
 |d::ds,_,_,_,h,q=>by
  obtain⟨v,r,rfl,h1,h2⟩:=h.cons_inv;exact denAll_cons h1 (DenAll.append h2 q)
end
mutual
theorem Den.reads{P:bA}{w:bQ}{H:Hp}{h:cM}(ok:HOk P w H h):∀(d:bw) {v:V} {u:ai},d.canLay0=rp->Den H v d->RelV v u->∃as,Reads h u d as
 |.none,v,u,_,q,r=>by
  simp only[Den]at q;subst q;cases (show u=bD from r)
  exact⟨_,.none⟩
 |.bool b,v,u,_,q,r=>by
  simp only[Den]at q;subst q;cases (show u=mW b from r)
  exact⟨_,.bool b⟩
 |.int i,v,u,_,q,r=>by
  simp only[Den]at q;subst q;obtain⟨t,rfl⟩:=r;exact⟨_,.int i t⟩
 |.str x,v,u,_,q,r=>by
  simp only[Den]at q;subst q;obtain⟨t,rfl⟩:=r;exact⟨_,.str x t⟩
 |.list ds,v,u,hl,q,r=>by
  simp only[Den]at q;obtain⟨a,xs,rfl,h1,h2⟩:=q;cases (show u=bt a from r)
  obtain⟨z,its,n,rv,e⟩:=ok a _ h1;obtain⟨as,ra⟩:=DenAll.reads ok ds hl h2 rv;exact⟨_,.list e rfl rfl (by simpa using ra)⟩
 |.tuple ds,v,u,hl,q,r=>by
  simp only[Den]at q;obtain⟨a,xs,rfl,h1,h2⟩:=q;cases (show u=bt a from r)
  obtain⟨z,its,rv,o,e,c,n,d⟩:=ok a _ h1;obtain⟨as,ra⟩:=DenAll.reads ok ds hl h2 rv;exact⟨_,.tuple e c d (by simpa using ra)⟩
 |.dict _,_,_,hl,_,_=>nomatch hl
theorem DenAll.reads{P:bA}{w:bQ}{H:Hp}{h:cM}(ok:HOk P w H h):∀(ds:List bw) {xs:List V} {us:List ai},bp ds=rp->DenAll H xs ds->Vals xs us->∃as,ji h us ds as
 |[],xs,us,_,q,r=>by
  simp only[DenAll]at q;subst q;cases r
  exact⟨_,.nil⟩
 |d::ds,xs,us,hl,q,r=>by
  have tw:d.canLay0=rp/\bp ds=rp:=by simpa[bp]using hl
  simp only[DenAll]at q;obtain⟨v,rs,rfl,h1,h2⟩:=q;cases r with
  |cons r1 r2=>
   obtain⟨as,ra⟩:=Den.reads ok d tw.1 h1 r1;obtain⟨bs,rb⟩:=DenAll.reads ok ds tw.2 h2 r2;exact⟨_,.cons ra rb⟩
end
section
variable {X:Cx}
def tyD:bw->String
 |.int _=>"int"
 |.bool _=>"bool"
 |.list _=>"list"
 |.tuple _=>"tuple"
 |.none=>"NoneType"
 |.str _=>"str"
 |.dict _=>"dict"
def Den.ty{K:ag}{H:Hp}{v:V}:∀{d:bw},Den H v d->TyOf K H v (.type (tyD d))
 |.none,h=>by simp only[Den]at h;subst h;exact .non
 |.bool _,h=>by simp only[Den]at h;subst h;exact .bl _
 |.int _,h=>by simp only[Den]at h;subst h;exact .int _
 |.str _,h=>by simp only[Den]at h;subst h;exact .str _
 |.list _,h=>by simp only[Den]at h;obtain⟨a,xs,rfl,h1,_⟩:=h;exact .lst h1
 |.tuple _,h=>by simp only[Den]at h;obtain⟨a,xs,rfl,h1,_⟩:=h;exact .tup h1
 |.dict _,h=>by simp only[Den]at h;obtain⟨_,a,rfl,h1⟩:=h;exact .dK h1
def Inv.sysBelow(I:Inv X pins Y H s):fA<s.heap.objs.size:=by
 have h:bU<s.heap.objs.size:=(I.mod.glob.keeps I.bk).lt;exact gT (by decide) h
end
def j8(h:H p=p4)(o:HO):Same H (upd H p o):=λb u q=>by rw[c6 (i4 q h)];exact q
def b2y(e:Same H H')(h:H p=p4)(o:HO):Same H (upd H' p o):=λb u q=>by rw[c6 (i4 q h)];exact e b u q
def PTs(X:Cx)(ifs:List Expr)(tt:TT):Prop:=
 ∀(pins:List (aC×gc)) (s:ao) (Y:St) (H:Hp) (Q:Bool->Hp->Prop),Inv X pins Y H s->tt Y H Q->
  aW (a_ X.prog X.w) X.A (forIn ifs rp λc r=>if r=rp then do let ok <-CZ c X.env (cI c X.env);pure (fL ok) else pure (fL r)) (TP X pins Y Q) X.xe s
def c3i:TT:=λ_ H Q=>Q rp H
def b5Q:PTs X [] c3i:=λ_ _ Y H _ I h=>wpAny_tests_nil ⟨H,I,h⟩
section
variable {prog:bA}{w:bQ}{A:bN}{R:xM->ao->Prop}{s:ao}
def a3W(I:Nat->ao->Prop)
  (turn:∀n s,I n s->aW (a_ prog w) A (qf it) (λr s₁=>match r with
   |none=>R (.ok .next) s₁
   |some v=>aW (a_ prog w) A (ni target it v) (λ_ s₂=>aW (a_ prog w) A (mU target env v) (λ_ s₃=>
     aW (a_ prog w) A (forIn ifs rp λc r=>if r=rp then do let ok <-CZ c env (cI c env);pure (fL ok) else pure (fL r)) (λok qR=>
     if ok=rp then aW (a_ prog w) A (cI elt env) (λx s₄=>
      aW (a_ prog w) A (call (.builtin "list.append") [acc,x]) (λ_ s₅=>∃m,m<n/\I m s₅) (λ_ _=>False) s₄) (λ_ _=>False) qR
     else ∃m,m<n/\I m qR)
     (λ_ _=>False) s₃) (λ_ _=>False) s₂) (λ_ _=>False) s₁) (λ_ _=>False) s)
  (n:Nat) (h:I n s) :
  kJ (a_ prog w) A (.compLoop (.ListComp elt [⟨target,iter,ifs,0⟩] scope pos) 0 it acc env) R s:=by
 refine codeAny_loop rfl I (λn s hI=>?_) n h;show aW _ _ ((compTurn (.ListComp elt [⟨target,iter,ifs,0⟩] scope pos) 0 it acc env).onRaise (λx=>do noteFrame x env;theTreesLotGoes x)) _ _ s;refine wpAny_noted ?_;rw[compTurn_list];refine ae (mh (ae (dW (turn n s hI) (λr s₁ h₁=>?_) λ_ _ h'=>h'.elim)));cases r with
 |none=>exact aA h₁
 |some v=>
  refine ae (dW h₁ (λ_ s₂ h₂=>?_) λ_ _ h'=>h'.elim);refine ae (dW h₂ (λ_ s₃ h₃=>ae (dW h₃ (λok qR pN=>?_) λ_ _ h'=>h'.elim)) λ_ _ h'=>h'.elim);cases ok with
  |false=>
   rw[aM cu]at pN;exact ae (aA (aA ⟨rfl,pN⟩))
  |true=>
   rw[aE rfl]at pN;exact ae (ae (dW pN (λx s₄ h₄=>ae (dW h₄ (λ_ s₅ h₅=>aA (aA ⟨rfl,h₅⟩)) λ_ _ h'=>h'.elim)) λ_ _ h'=>h'.elim))
end
def a5l(wi:TI)(g:TG)(tt:TT)(te:TE)(τ:St->St):TE:=λY H Q=>wi Y H λJ H1=>∀D,H1 D=p4->∃W:Nat->Nat->List V->St->Hp->Prop,(∃m,W 0 m [] (τ Y) (upd H1 D (.lst [])))/\
 ∀i m ys Y' H',W i m ys Y' H'->(J.stop i H'/\Q (.ref D) H')\/
  (J.go i H'/\∃(N:V->St->Hp->Prop) (NO:St->Hp->Prop),(∀y Y3 H4,N y Y3 H4->H4 D=cz (.lst ys)/\ys.length<br/\∃m',m'<m/\W (i+1) m' (ys++[y]) Y3 (upd H4 D (.lst (ys++[y]))))/\
   (∀Y3 H4,NO Y3 H4->∃m',m'<m/\W (i+1) m' ys Y3 H4)/\∀x H2,J.yld i H' x H2->g x Y' H2 λY3 H3=>tt Y3 H3 λb H4=>if b=rp then te Y3 H4 λy H5=>N y Y3 H5 else NO Y3 H4)
section
variable {X:Cx}{N:List bM}{scope:gL}{cl:List (bM×aC)}{τ:St->St}{elt tg iter:Expr}{ifs:List Expr}{pos:fV}{wi:TI}{g:TG}{tt:TT}{te:TE}
def a4p(hc:X.calm=rp)(hi:PI X tg iter wi)(C:CompIn X N scope cl τ)(hg:∀Cl s H fp,PG (L7 X N scope cl Cl s H fp) tg g)(ht:∀Cl s H fp,PTs (L7 X N scope cl Cl s H fp) ifs tt)(he:∀Cl s H fp,PE (L7 X N scope cl Cl s H fp) elt te)
  (I:Inv X pins Y H s) (h:a5l wi g tt te τ Y H R) {PP:ai->aC->xM->ao->Prop}
  (EY:∀D Cl Hn s' o m,Inv X pins Y Hn s'->R (.ref D) Hn->a3S X pins Hn Cl->s'.heap.get? Cl=cz o->(∀v,o.data≠.cell v)->(∀h':cM,h'.get? Cl=cz o->h'.Ns Cl m)->PP (.ref D) Cl (.ok .next) s') :
  aW (a_ X.prog X.w) X.A (cI iter X.env) (λx s₁=>aW (a_ X.prog X.w) X.A (CI x) (λit s₂=>aW (a_ X.prog X.w) X.A (newList []) (λacc s₃=>
   aW (a_ X.prog X.w) X.A (newFunctionEnv scope X.env.globals cl [] X.env.qual p4 .none (cz X.env)) (λxI s₄=>
    kJ (a_ X.prog X.w) X.A (.compStart (.ListComp elt [⟨tg,iter,ifs,0⟩] scope pos) 0 it acc {xI with scope:=mQ scope X.env}) (PP acc xI.locals) s₄) X.xe s₃) X.xe s₂) X.xe s₁) X.xe s:=by
 refine thn (hi pins s Y H _ I h) λx s1 h1=>thn h1 λzd s2 h2=>?_
 obtain⟨it,fp,tn,J,H2,rfl,I2,T,lR,f2,q⟩:=h2;refine jd (wpAny_newFunctionEnv C.ncell (by intro y hy;simp at hy) (λh₁ oY nG=>?_) C.kind)
 dsimp only at oY nG ⊢
 generalize An:s2.heap.push {cls:=.type "list",dict:=p4,data:=.seq ([]:List ai).toArray}=G2 at oY nG ⊢;have hC:G2.objs.size=s2.heap.objs.size+1:=by rw[<-An,ly]
 have BO:s2.heap.objs.size≠G2.objs.size:=by rw[hC];exact bO (pD _)
 have uO:s2.heap.objs.size<=G2.objs.size:=by rw[hC];exact xO _
 have below:∀b,b<s2.heap.objs.size->b≠G2.objs.size:=λb hb=>by rw[hC];exact bO (kF hb)
 have old:∀b o,s2.heap.get? b=cz o->h₁.get? b=cz o:=λb o e=>nG.extBut b o (below b (aY e)) (aO _ (An▸aO _ e))
 have pA:h₁.get? s2.heap.objs.size=cz {cls:=.type "list",dict:=p4,data:=.seq ([]:List ai).toArray}:=nG.extBut _ _ BO (aO _ (An▸bz _ rfl));have Au:∀b∈fp,b<s2.heap.objs.size:=λb hb=>by
  obtain⟨o,e,_⟩:=T.obj 0 _ lR b hb;exact aY e
 have BN:H2 s2.heap.objs.size=p4:=I2.hok.fresh (az _);have Fe:H2 G2.objs.size=p4:=I2.hok.fresh uO;generalize yw:G2.objs.size=Cl at *;have Cy:∀b∈frs X.stack,b<s2.heap.objs.size:=λb hb=>by
  rcases aN.mp (I2.stkSub b hb) with e|hb
  ·rw[e];exact I2.lt
  ·obtain⟨_,o,ho,_⟩:=I2.funs.mem hb;exact aY ho
 have yU:(L7 X N scope cl Cl s2 H2 fp).Ok:=by
  refine⟨I2.ok.mod,C.kind,I2.ok.glob,I2.ok.blt,uO,λx y c e1 e2=>I2.ok.inj x y c (C.sub x c e1) (C.sub y c e2),λx hx=>?_,λx c hx _=>(nomatch hx),λz=>I2.ok.hd z,I2.ok.frames,.inl rfl,λb hb=>⟨below b (Au b hb),λx c e=>(f2 b hb).2.2.2.2.1 x c (C.sub x c e)⟩,
   I2.bs,cC I2.ok.bsz I2.sz,λb o e hb=>?_,λb hb z=>?_,I2.stack,I2.stkFree,I2.tabs⟩
  ·obtain⟨y,hy,rfl,ey⟩:=a0B C.ncell hx;exact C.has y hy ey
  ·rcases (f2 b hb).2.2.2.1 with z|z
   ·exact I2.ok.noex b o e z
   ·exact absurd (bx (aY e) (cC I2.ok.bsz z)) (dS _)
  ·rcases aN.mp (I2.stkSub b z) with e|e
   ·exact (f2 b hb).2.1 e
   ·exact (f2 b hb).2.2.1 e
 have I4:Inv (L7 X N scope cl Cl s2 H2 fp) pins (τ Y) (upd H2 s2.heap.objs.size (.lst [])) {s2 with heap:=h₁,toks:=s2.toks+([]:List (bM×ai)).length}:=by
  have lc:=I2.loc;obtain⟨m,hn,hl⟩:=lc;refine⟨yU,rfl,I2.bare,Un.laid old (az _) BN,⟨_,oY,λi x v e1 e2 e3=>?_⟩,λx c e=>?_,?_,λx c e=>?_,λp hp=>?_,I2.hok.laid old (az _) ⟨bL _,[],_,.nil,pA⟩,C.tlen Y⟩
  ·obtain⟨j,j1,j2,j3,j4⟩:=C.tval Y i x v e1 e2;have kx:(mQ scope X.env).names.lookup x=cz .cell\/(mQ scope X.env).names.lookup x=cz .free:=a5j j3;obtain⟨y,hy,Fm,ey⟩:=a0B C.ncell kx;obtain⟨c,uL⟩:=C.has y hy ey;rw[Fm]at uL;have Ac:=C.sub x c uL;have hv:Vis X.env.scope x:=.inr j4;obtain⟨u,ru,lk⟩:=hl j x v j1 j2 hv;refine⟨u,ru,?_⟩;rcases lk with⟨k,_⟩|⟨k,c',e',z⟩
   ·rcases j4 with j4|j4
    ·rw[j4]at k;cases k
    ·rw[j4]at k;cases k
   ·rw[Ac]at e';cases e'
    obtain⟨o,ho,hd⟩:=z;exact .inr ⟨kx,c,uL,⟨o,old c o ho,hd⟩⟩
  ·obtain⟨v,o,ho,hd⟩:=I2.cell x c (C.sub x c e);exact⟨v,o,old c o ho,hd⟩
  ·show upd H2 s2.heap.objs.size (.lst []) Cl=p4;rw[c6 (fm BO)];exact Fe
  ·have n:=I2.freeC x c (C.sub x c e);obtain⟨v,o,ho,hd⟩:=I2.cell x c (C.sub x c e);rw[c6 (bO (aY ho))];exact n
  ·obtain⟨e,n,ne,nf,d⟩:=I2.pin p hp;refine⟨old _ _ e,by rw[c6 (bO (aY e))];exact n,below _ (aY e),λz=>?_,d⟩;rcases aN.mp (I2.stkSub p.1 z) with e'|e'
   ·exact ne e'
   ·exact nf e'
 have oV:∀{H':Hp},(∀b∈fp,H' b=p4)->∀b∈fp,a3S (L7 X N scope cl Cl s2 H2 fp) pins H' b:=λhn b hb=>
  ⟨hn b hb,below b (Au b hb),yU.exfs b hb,.inl hb,(yU.exf b hb).2,(f2 b hb).2.2.2.2.2⟩
 obtain⟨W,⟨m0,w0⟩,turn⟩:=q s2.heap.objs.size BN;have loop:∀s₃:ao,s₃={s2 with heap:=h₁,toks:=s2.toks+([]:List (bM×ai)).length}->
   kJ (a_ X.prog X.w) X.A (.compLoop (.ListComp elt [⟨tg,iter,ifs,0⟩] scope pos) 0 (.ref it) (.ref s2.heap.objs.size) (compEnvC scope cl Cl X.env)) (PP (.ref s2.heap.objs.size) Cl) s₃:=by
  rintro s₃ rfl;refine a3W (λn s'=>∃i ys Y' H',Inv (L7 X N scope cl Cl s2 H2 fp) pins Y' H' s'/\tn i s'.heap/\(∀b∈fp,H' b=p4)/\W i n ys Y' H') ?_ m0
   ⟨0,[],τ Y,_,I4,T.keep _ _ _ lR λb hb o e=>old b o e,λb hb=>by rw[c6 (bO (Au b hb))];exact (f2 b hb).1,w0⟩
  rintro n s3 ⟨i,ys,Y3,H3,I3,jJ,xE,w3⟩;rcases turn i n ys Y3 H3 w3 with⟨stop,qn⟩|⟨go,NN,NO,hN,hO,step⟩
  ·refine thn (T.done (L7 X N scope cl Cl s2 H2 fp) rfl rfl rfl hc i pins s3 Y3 H3 _ I3 (oV xE) jJ stop) λr s4 ⟨hr,I5⟩=>?_
   subst hr;have lc:=I5.loc;obtain⟨m,hn,_⟩:=lc;obtain⟨o,es,ep,ho,hd,jS⟩:=hn;have J5:Inv X pins Y H3 s4:=I2.call' (ch:=fp) I5.os I5.base I5.hok I5.bare λb hb=>⟨(f2 b hb).2.2.2.1,(f2 b hb).2.1,(f2 b hb).2.2.2.2.1,(f2 b hb).2.2.2.2.2⟩
   refine EY _ Cl H3 s4 o m J5 qn (I2.fpOk uO I5.free) ho (λv z=>by rw[hd]at z;cases z) λh' e=>⟨o,es,ep,e,hd,jS⟩
  ·refine thn (T.item (L7 X N scope cl Cl s2 H2 fp) rfl rfl rfl hc i pins s3 Y3 H3 _ I3 (oV xE) jJ go) λr s4 qz=>?_
   obtain⟨u,hr,h4⟩:=qz;subst hr;refine thn h4 λ_ s5 qz=>?_
   obtain⟨x,H5,I5,r5,y5,qS,Ar⟩:=qz;have AK:=I5.pinned (oV Ar) (T.obj _ _ qS);refine thn (hg Cl s2 H2 fp _ s5 Y3 H5 x u _ AK r5 (step x H5 y5)) λ_ s6 qz=>?_
   obtain⟨Y6,H6,I6,q6⟩:=qz;refine thn (ht Cl s2 H2 fp _ s6 Y6 H6 _ I6 q6) λok CB qz=>?_
   obtain⟨FX,yJ,xY⟩:=qz;cases ok with
   |false=>
    rw[aM cu]at xY ⊢;obtain⟨m',hm,w7⟩:=hO _ _ xY;refine⟨m',hm,i+1,ys,Y6,_,yJ.unpinned,T.keep _ _ _ qS λb hb o e=>(yJ.pin (b,o) (aj _ (aj _ (C1 hb e)))).1,λb hb=>?_,w7⟩;obtain⟨o,e,d⟩:=T.obj _ _ qS b hb;exact (yJ.pin (b,o) (aj _ (aj _ (C1 hb e)))).2.1
   |true=>
    rw[aE rfl]at xY ⊢;refine thn (he Cl s2 H2 fp _ CB Y6 FX _ yJ xY) λyv s7 qz=>?_
    obtain⟨y,H7,I7,r7,q7⟩:=qz;obtain⟨CG,CF,m',hm,w7⟩:=hN _ _ _ q7;refine thn (X3 (X:=L7 X N scope cl Cl s2 H2 fp) _ s7 Y6 H7 (.ref s2.heap.objs.size) [y] (.ref s2.heap.objs.size) [yv] (λ_ H8=>H8=upd H7 s2.heap.objs.size (.lst (ys++[y]))) I7 rfl (.cons r7 .nil)
     ⟨_,ys,y,rfl,rfl,CG,CF,rfl⟩) λ_ s8 ⟨_,H8,I8,_,e8⟩=>?_
    subst e8;refine⟨m',hm,i+1,ys++[y],Y6,_,I8.unpinned,T.keep _ _ _ qS λb hb o e=>(I8.pin (b,o) (aj _ (aj _ (C1 hb e)))).1,λb hb=>?_,w7⟩;obtain⟨o,e,d⟩:=T.obj _ _ qS b hb;exact (I8.pin (b,o) (aj _ (aj _ (C1 hb e)))).2.1
 have lC:tn 0 h₁:=T.keep _ _ _ lR λb hb o e=>old b o e
 exact codeAny_compStart_list (loop _ rfl) (T.self X.A 0 {s2 with heap:=h₁,toks:=s2.toks+([]:List (bM×ai)).length} _ _ lC (loop _ rfl))
end
def v7(env:pH):List (bM×jn)->List (bM×aC)->List (bM×aC)
 |[],cs=>cs
 | (n,k)::r,cs=>v7 env r (if k==.free then (n,(env.cells.lookup n).getD 0)::cs else cs)
theorem V1{env:pH}:∀(names:List (bM×jn)) (cs:List (bM×aC)),(∀y∈names,y.2=.free->∃c,env.cells.lookup y.1=cz c)->
  (forIn names cs λ(x:bM×jn) (cs:List (bM×aC))=>(if x.2==.free then do let a <-cellOf env x.1;pure (fL ((x.1,a)::cs)) else pure (fL cs):AE (ForInStep (List (bM×aC)))))=pure (v7 env names cs)
 |[],cs,_=>by rw[rS];rfl
 | (n,k)::r,cs,h=>by
  rw[qK]
  dsimp only
  by_cases hk:(k==fJ)=rp
  ·obtain⟨c,hc⟩:=h (n,k) aK (by simpa using hk);rw[aE hk];have e:cellOf env n=pure c:=by unfold cellOf;rw[hc]
   rw[e];have:=V1 r ((n,c)::cs) λy hy=>h y (ar _ hy)
   have e2:v7 env ((n,k)::r) cs=v7 env r ((n,c)::cs):=by
    show v7 env r (if k==.free then (n,(env.cells.lookup n).getD 0)::cs else cs)=_;rw[aE hk,hc];rfl
   rw[e2,<-this];simp only[pure_bind]
  ·rw[aM hk];have:=V1 r cs λy hy=>h y (ar _ hy)
   have e2:v7 env ((n,k)::r) cs=v7 env r cs:=by
    show v7 env r (if k==.free then (n,(env.cells.lookup n).getD 0)::cs else cs)=_;rw[aM hk]
   rw[e2,<-this];simp only[pure_bind]
def a7N{scope:gL}{env:pH}(h:∀y∈scope.names,y.2=.free->∃c,env.cells.lookup y.1=cz c):qD scope env=pure (v7 env scope.names []):=by
 have:=V1 scope.names [] h;rw[<-this];unfold qD;simp
theorem a0h{env:pH}:∀(names:List (bM×jn)) (cs:List (bM×aC)),(∀y∈names,y.2=.free->∃c,env.cells.lookup y.1=cz c)->(∀p∈cs,env.cells.lookup p.1=cz p.2)->
  (∀p∈v7 env names cs,env.cells.lookup p.1=cz p.2)/\(∀p∈cs,p∈v7 env names cs)/\∀y∈names,y.2=.free->∃c,(y.1,c)∈v7 env names cs
 |[],cs,_,hc=>⟨hc,λ_ h=>h,λy hy=>(nomatch hy)⟩
 | (n,k)::r,cs,h,hc=>by
  by_cases hk:(k==fJ)=rp
  ·obtain⟨c,e⟩:=h (n,k) aK (by simpa using hk);have e2:v7 env ((n,k)::r) cs=v7 env r ((n,c)::cs):=by
    show v7 env r (if k==.free then (n,(env.cells.lookup n).getD 0)::cs else cs)=_;rw[aE hk,e];rfl
   rw[e2];obtain⟨a,b,d⟩:=a0h r ((n,c)::cs) (λy hy=>h y (ar _ hy)) λp hp=>by
    rcases aN.mp hp with z|z
    ·rw[z];exact e
    ·exact hc p z
   refine⟨a,λp hp=>b p (ar _ hp),λy hy hf=>?_⟩;rcases aN.mp hy with z|z
   ·rw[z];exact⟨c,b _ aK⟩
   ·exact d y z hf
  ·have e2:v7 env ((n,k)::r) cs=v7 env r cs:=by
    show v7 env r (if k==.free then (n,(env.cells.lookup n).getD 0)::cs else cs)=_;rw[aM hk]
   rw[e2];obtain⟨a,b,d⟩:=a0h r cs (λy hy=>h y (ar _ hy)) hc;refine⟨a,b,λy hy hf=>?_⟩;rcases aN.mp hy with z|z
   ·rw[z]at hf;exact absurd (by simpa using hf) hk
   ·exact d y z hf
theorem Z0:∀{l:List (bM×aC)},(x,c)∈l->∃c',l.lookup x=cz c'
 |[],h=>nomatch h
 | (y,d)::l,h=>by
  rw[f_];cases e:x==y with
  |true=>exact⟨d,rfl⟩
  |false=>
   rcases aN.mp h with z|z
   ·cases z;simp at e
   ·exact Z0 z
def X5(scope:gL)(okind:bM->Option jn)(ys:List bM)(js:List Nat)(XN:List bM):Bool:=
 scope.kind==.function&&scope.names.all (λy=>y.2 !=.cell&&(y.2 !=.local||scope.names.lookup y.1==cz .local)&&(y.2 !=.free||(okind y.1==cz .cell||okind y.1==cz .free))) &&
 ys.length==js.length&&(ys.zip js).all λp=>XN[p.2]?==cz p.1&&scope.names.lookup p.1==cz .free&&(okind p.1==cz .cell||okind p.1==cz .free)
def a1h(tn:List bM)(js:List Nat):St->St:=λY=>aI tn.length p4++js.map λj=>(Y[j]?).getD p4
def a4q{X:Cx}{scope:gL}(ok:X.Ok)(h:X5 scope X.env.kindOf ys js X.N=rp):CompIn X (tn++ys) scope (v7 X.env scope.names []) (a1h tn js):=by
 unfold X5 at h;rw[aL,aL,aL,dP,dP]at h;obtain⟨⟨⟨hk,ha⟩,hl⟩,hz⟩:=h;have nr:∀y∈scope.names,y.2≠.cell:=λy hy e=>by
  have:=ha y hy;rw[e]at this;simp at this
 have zK:∀y∈scope.names,y.2=.local->scope.names.lookup y.1=cz .local:=λy hy e=>by
  have:=ha y hy;rw[e]at this;simpa using this
 have oh:∀y∈scope.names,y.2=.free->∃c,X.env.cells.lookup y.1=cz c:=λy hy e=>by
  have:=ha y hy;rw[e]at this;refine ok.has y.1 ?_;simpa using this
 obtain⟨a,_,d⟩:=a0h scope.names [] oh λp hp=>(nomatch hp)
 refine⟨a7N oh,by simpa using hk,nr,zK,λx c e=>a _ (cB e),λy hy e=>?_,λY=>?_,λY i x v h1 h2=>?_⟩
 ·obtain⟨c,hc⟩:=d y hy e;exact Z0 hc
 ·have:ys.length=js.length:=by simpa using hl
  unfold a1h;simp[this]
 ·unfold a1h at h2;by_cases hi:i<tn.length
  ·rw[cG (by simpa using hi),tS]at h2
   split at h2<;>cases h2
  ·rw[bI (by simpa using hi),fG,aQ]at h2;rw[bI (by lia)]at h1;cases hj:js[i-tn.length]? with
   |none=>rw[hj]at h2;cases h2
   |some j=>
    rw[hj]at h2;have h3:(Y[j]?).getD p4=cz v:=by simpa using h2
    have iN:(x,j)∈ys.zip js:=by
     have hlen:=(aD.mp h1).1;have Bv:=(aD.mp hj).1;rw[cW];refine⟨i-tn.length,?_⟩;rw[gY];exact⟨h1,hj⟩
    have:=hz _ iN;rw[aL,aL,me]at this;obtain⟨⟨e1,e2⟩,e3⟩:=this;refine⟨j,by simpa using e1,?_,by simpa using e2,by simpa using e3⟩;cases q:Y[j]? with
    |none=>rw[q]at h3;cases h3
    |some o=>rw[q]at h3;have:o=cz v:=h3;rw[this]
section
variable {X:Cx}{tn ys:List bM}{js:List Nat}{scope:gL}{elt tg iter:Expr}{ifs:List Expr}{pos:fV}{wi:TI}{g:TG}{tt:TT}{te:TE}
def b2z(hc:X.calm=rp)(hi:PI X tg iter wi)(C:X5 scope X.env.kindOf ys js X.N=rp)(hg:∀cl Cl s H fp,PG (L7 X (tn++ys) scope cl Cl s H fp) tg g)(ht:∀cl Cl s H fp,PTs (L7 X (tn++ys) scope cl Cl s H fp) ifs tt)(he:∀cl Cl s H fp,PE (L7 X (tn++ys) scope cl Cl s H fp) elt te)
  (hs:∀x,fy iter X.env x=pure x:=by intro _;rfl):PE X (.ListComp elt [⟨tg,iter,ifs,0⟩] scope pos) (a5l wi g tt te (a1h tn js)):=by
 intro pins s Y H Q I h;have C:=a4q (tn:=tn) I.ok C;rw[eval_ListComp];refine yK (use:=p4) rfl hs C.clos C.kind C.names (a4p hc hi C (hg _) (ht _) (he _) I h (PP:=λacc Cl=>compPost (a_ X.prog X.w) X.A X.xe p4 (EP X pins Y Q) acc Cl) ?_);intro D Cl Hn s' o m I' hq F ho hd su;refine⟨m,su _ ho,λh' ju=>⟨.ref D,Hn,?_,rfl,hq⟩⟩;exact I'.turned (t':=s'.toks) (λb ob hb e=>(ju.2 b hb).trans e) F.1 F.2.1 F.2.2.2.1 F.2.2.2.2.1 F.2.2.2.2.2
def a6s{py tY:fV}(hc:X.calm=rp)(hN:X.N.Nodup)(hy:X.N[i]?=cz y)(hx:Loc X.env.scope y)(hi:PI X tg iter wi)(C:X5 scope X.env.kindOf ys js X.N=rp)
  (hg:∀cl Cl s H fp,PG (L7 X (tn++ys) scope cl Cl s H fp) tg g) (ht:∀cl Cl s H fp,PTs (L7 X (tn++ys) scope cl Cl s H fp) ifs tt) (he:∀cl Cl s H fp,PE (L7 X (tn++ys) scope cl Cl s H fp) elt te)
  (qo:fx (.ListComp elt [⟨tg,iter,ifs,0⟩] scope pos) (cz (.Name y py)) tY.line X.env=pure rp:=by rfl) (hs:∀x,fy iter X.env x=pure x:=by intro _;rfl)
  (hf:autoParam (X.fn y=rp\/X.env.scope.names.lookup y=cz .local) ZZ._auto_1) :
  PS X (.Assign [.Name y py] (.ListComp elt [⟨tg,iter,ifs,0⟩] scope pos) tY) (b8E (a5l wi g tt te (a1h tn js)) (V0 i)):=by
 intro pins s Y H D I h;have C:=a4q (tn:=tn) I.ok C;rw[exec_Assign_Name_used _ _ _ _ qo];refine ae (mh (ae ?_));show aW _ X.A (do let _ <-comprehension (.ListComp elt [⟨tg,iter,ifs,0⟩] scope pos) scope X.env _ (newList []) xn (cI iter X.env) (cz (mU (.Name y py) X.env))) _ _ s;refine ae (dW (yK (use:=cz (mU (.Name y py) X.env)) (Q:=λ_ s'=>SP X pins D .next s') rfl hs C.clos C.kind C.names
  (a4p hc hi C (hg _) (ht _) (he _) I h (PP:=λacc Cl=>compPost (a_ X.prog X.w) X.A X.xe (cz (mU (.Name y py) X.env)) (λ_ s'=>SP X pins D .next s') acc Cl) ?_)) (λ_ s' hq=>aA (aA hq)) λ_ _ e=>e)
 intro Dl Cl Hn s' o m I' hq F ho hd su;have I1:=I'.pinned (fp:=[Cl]) (λb hb=>by rw[aq.mp hb];exact F) (λb hb=>by rw[aq.mp hb];exact⟨o,ho,hd⟩);show aW _ X.A (mU (.Name y py) X.env (.ref Dl)) _ _ _;refine wpAny_assign_Name (a0w I1 hN hy hx (v:=.ref Dl) rfl (λs2 I2=>?_) hf);have e2:=(I2.pin (Cl,o) (aj _ (aj _ (C1 (aq.mpr rfl) ho)))).1;refine⟨m,su _ e2,λh' ju=>⟨Y.set i (cz (.ref Dl)),Hn,?_,hq⟩⟩;exact I2.unpinned.turned (t':=s2.toks) (λb ob hb e=>(ju.2 b hb).trans e) F.1 F.2.1 F.2.2.2.1 F.2.2.2.2.1 F.2.2.2.2.2
end
end L2
namespace VS
open PySem.Spec L2
abbrev D:=bw
mutual
def A1:D->Bool
 |.int _=>rp
 |.tuple ds=>n9 ds
 |.none|.bool _|.str _|.list _|.dict _=>xn
def n9:List D->Bool
 |[]=>rp
 |d::ds=>A1 d&&n9 ds
end
mutual
def hashD:D->Int
 |.int i=>hashInt i
 |.tuple ds=>reduceHash (eM (x9 ds))
 |.none|.bool _|.str _|.list _|.dict _=>0
def x9:List D->List Int
 |[]=>[]
 |d::ds=>hashD d::x9 ds
end
mutual
def s9:D->Nat
 |.int _=>1
 |.tuple ds=>O2 ds+1
 |.none|.bool _|.str _|.list _|.dict _=>0
def O2:List D->Nat
 |[]=>0
 |d::ds=>s9 d+O2 ds
end
mutual
theorem V2:∀d:D,A1 d=rp->d.canLay0=rp
 |.int _,_=>by simp only[eX]
 |.tuple ds,h=>by
  simp only[A1]at h;simp only[eX];exact a1M ds h
 |.none,h|.bool _,h|.str _,h|.list _,h|.dict _,h=>by simp only[A1]at h;cases h
theorem a1M:∀ds:List D,n9 ds=rp->bp ds=rp
 |[],_=>by simp only[bp]
 |d::ds,h=>by
  simp only[n9,aL]at h;simp only[bp,aL];exact⟨V2 d h.1,a1M ds h.2⟩
end
mutual
theorem V3:∀a b:D,A1 a=rp->A1 b=rp->(aR a b=rp↔a=b)
 |.int i,b,_,hb=>by
  cases b with
  |int j=>
   show (i==j)=rp↔_;rw[beq_iff_eq];exact⟨λe=>by rw[e],λe=>by injection e⟩
  |tuple ds=>simp[aR]
  |_=>simp only[A1]at hb;cases hb
 |.tuple xs,b,ha,hb=>by
  cases b with
  |int j=>simp[aR]
  |tuple ys=>
   simp only[A1]at ha hb;simp only[aR];rw[a1N xs ys ha hb];exact⟨λe=>by rw[e],λe=>by injection e⟩
  |_=>simp only[A1]at hb;cases hb
 |.none,b,h,_|.bool _,b,h,_|.str _,b,h,_|.list _,b,h,_|.dict _,b,h,_=>by simp only[A1]at h;cases h
theorem a1N:∀a b:List D,n9 a=rp->n9 b=rp->(cy a b=rp↔a=b)
 |[],[],_,_=>by simp[cy]
 |[],_::_,_,_=>by simp[cy]
 |_::_,[],_,_=>by simp[cy]
 |x::xs,y::ys,ha,hb=>by
  simp only[n9,aL]at ha hb;simp only[cy,aL];rw[V3 x y ha.1 hb.1,a1N xs ys ha.2 hb.2]
  constructor
  ·rintro⟨rfl,rfl⟩;rfl
  ·intro e;injection e with e1 e2;exact⟨e1,e2⟩
end
mutual
theorem a2J{h h':cM}{es ep}(ho:h.get? d=cz o)(hd:o.data=.dict es ep)(hs:jq d h h'):∀(k:D) {v:ai} {as:List aC},A1 k=rp->Reads h v k as->Reads h' v k as
 |.int _,_,_,_,r=>by cases r;exact .int _ _
 |.tuple ds,_,_,hk,r=>by
  simp only[A1]at hk;cases r with
  |@tuple a oo vs n _ as c1 c2 c3 c4=>
   have i_:a≠d:=by
    rintro rfl;obtain rfl:oo=o:=aF (c1.symm.trans ho);rw[hd]at c3;exact nomatch c3
   exact .tuple ((hs.2 a i_).trans c1) c2 c3 (Z2 ho hd hs ds hk c4)
 |.none,_,_,h,_|.bool _,_,_,h,_|.str _,_,_,h,_|.list _,_,_,h,_|.dict _,_,_,h,_=>by simp only[A1]at h;cases h
theorem Z2{h h':cM}{es ep}(ho:h.get? d=cz o)(hd:o.data=.dict es ep)(hs:jq d h h'):∀(ks:List D) {vs:List ai} {as:List aC},n9 ks=rp->ji h vs ks as->ji h' vs ks as
 |[],_,_,_,r=>by cases r;exact .nil
 |k::ks,_,_,hk,r=>by
  simp only[n9,aL]at hk;cases r with
  |cons r1 r2=>exact .cons (a2J ho hd hs k hk.1 r1) (Z2 ho hd hs ks hk.2 r2)
end
section
variable {prog:bA}{w:bQ}{E:ai->ao->Prop}
mutual
theorem a2K:∀(k:D) {A:bN} {s:ao} {v:ai} {as:List aC} {Q:Int->ao->Prop},A1 k=rp->A.units+k.depth<dF->Reads s.heap v k as->Q (hashD k) {s with toks:=s.toks+s9 k}->aW (a_ prog w) A (pyHash v) Q E s
 |.int i,A,s,v,as,Q,_,_,r,h=>by
  cases r
  simp only[hashD,s9]at h;exact wpAny_pyHash_int h
 |.tuple ds,A,s,v,as,Q,hk,hu,r,h=>by
  simp only[A1]at hk;simp only[fI]at hu;simp only[hashD,s9]at h;cases r with
  |@tuple a o items n _ as ho hc hd hi=>
   have hT:s.TypeIs (.ref a) "tuple":=⟨o,ho,hc⟩;unfold pyHash
   first|unfold pyHashByItsType|skip
   first|refine ae (wpAny_cRoomFor_or (.inr (by lia)) ?_)|skip
   refine ae (iJ hT jt.lookup ?_);show aW _ _ (if (cz (ai.builtin "tuple.__hash__")==cz bD)=rp then _ else _) Q E s;rw[aM (by rw[beq_builtin_none];exact cu)];refine ae (iJ hT jt.lookup ?_);show aW _ _ (callSpecialIfBoundUnlessNone? (.ref a) "__hash__" _ >>= _) Q E s;refine ae (wpAny_callSpecialIfBoundUnlessNone?_slot hT jt (et jt hT F.entry_tuple_hash ?_ (F.args_tuple_hash_1 _)));show aW _ _ (Builtin.Tuple.tupleItemsOf (.ref a) >>= _) _ _ s;refine ae (wpAny_tupleItemsOf ho hd ?_);refine ae ?_;rw[<-gj];refine a4r ds (A:=A.in1) (acc:=#[]) hk (by show A.units+1+_<_;lia) hi ?_;show aW _ _ (retInt (eM _)) _ _ _;simp only[ng,bT];refine wpAny_ret_mkInt ?_;show aW _ _ (if (decide (-(2:Int)^63<=eM (x9 ds))&&decide (eM (x9 ds)<2^63))=rp then _ else _) Q E _;unfold reduceHash at h;by_cases hr:(decide (-(2:Int)^63<=eM (x9 ds))&&decide (eM (x9 ds)<2^63))=rp
   ·rw[aE hr];rw[aE hr]at h;exact aA (by simpa[gx]using h)
   ·rw[aM hr];rw[aM hr]at h;exact ae (kX (aA (by simpa[gx]using h)))
 |.none,_,_,_,_,_,h,_,_,_|.bool _,_,_,_,_,_,h,_,_,_|.str _,_,_,_,_,_,h,_,_,_|.list _,_,_,_,_,_,h,_,_,_|.dict _,_,_,_,_,_,h,_,_,_=>by simp only[A1]at h;cases h
theorem a4r:∀(ks:List D) {A:bN} {s:ao} {vs:List ai} {as:List aC} {acc:Array Int} {Q:Array Int->ao->Prop},n9 ks=rp->A.units+c_ ks<dF->ji s.heap vs ks as->Q (acc++(x9 ks).toArray) {s with toks:=s.toks+O2 ks}->
  aW (a_ prog w) A (forIn vs acc λx r=>do let r1 <-pyHash x;pure PUnit.unit;pure (fL (r.push r1))) Q E s
 |[],A,s,vs,as,acc,Q,_,_,r,h=>by
  cases r
  rw[rS];exact aA (by simpa[x9,O2]using h)
 |k::ks,A,s,vs,as,acc,Q,hk,hu,r,h=>by
  simp only[n9,aL]at hk;simp only[c_]at hu;cases r with
  |cons r1 r2=>
   rw[qK];refine ae (ae (a2K k hk.1 (by lia) r1 ?_));refine ae (aA (aA ?_));refine a4r ks (s:={s with toks:=s.toks+s9 k}) hk.2 (by lia) r2 ?_;simp only[x9,O2]at h;have e:(acc.push (hashD k))++(x9 ks).toArray=acc++(hashD k::x9 ks).toArray:=by simp
   rw[e];simpa[gx]using h
end
end
section
variable {prog:bA}{w:bQ}{A:bN}{E:ai->ao->Prop}
mutual
theorem a4s:∀(k:D) (n:Nat) {s:ao} {v:ai} {as:List aC} {Q:Bool->ao->Prop},A1 k=rp->k.depth<=n->Reads s.heap v k as->Q rp s->aW (a_ prog w) A (eqIsQuiet n v) Q E s
 |.int i,n,s,v,as,Q,_,_,r,h=>by
  cases r
  rw[eqIsQuiet_byValue n (v:=.int i _) rfl];exact aA h
 |.tuple ds,0,s,v,as,Q,_,hn,_,_=>by simp only[fI]at hn;lia
 |.tuple ds,n+1,s,v,as,Q,hk,hn,r,h=>by
  simp only[A1]at hk;simp only[fI]at hn;cases r with
  |@tuple a o items m _ as ho hc hd hi=>
   have hT:s.TypeIs (.ref a) "tuple":=⟨o,ho,hc⟩;unfold eqIsQuiet;refine ae (iJ hT F.slot_tuple_eq.lookup ?_);show aW _ _ (isInstance (.ref a) (.type "tuple") >>= _) _ _ s;refine ae (wpAny_isInstance hT isSubtype_tuple_tuple ?_);simp only[er,be,cH];refine ae (vT ho hd ?_);refine ae ?_;show aW _ _ (forIn items _ _) _ _ s;rw[<-gj];refine jI _ (λrest r s'=>r.1=p4/\s'=s/\∃ks bs,n9 ks=rp/\c_ ks<=n/\(∀k∈ks,k∈ds)/\ji s.heap rest ks bs) _ ?_ ?_ _ _ ⟨rfl,rfl,ds,as,hk,by lia,λk hk=>hk,hi⟩
   ·rintro v rest r s' ⟨hr,rfl,ks,bs,k1,k2,k3,k4⟩;cases k4 with
    |@cons _ _ d' kj _ _ r1 r2=>
     simp only[n9,aL]at k1;simp only[c_]at k2;refine ae (a4t ds n hk (by lia) d' (k3 d' aK) r1 ?_);simp only[er,be,cH];exact aA ⟨rfl,rfl,_,_,k1.2,by lia,λk hk=>k3 k (ar _ hk),r2⟩
   ·rintro⟨r1,r2⟩ s' ⟨hr,rfl,_⟩;simp only at hr;subst hr;exact aA h
 |.none,_,_,_,_,_,h,_,_,_|.bool _,_,_,_,_,_,h,_,_,_|.str _,_,_,_,_,_,h,_,_,_|.list _,_,_,_,_,_,h,_,_,_|.dict _,_,_,_,_,_,h,_,_,_=>by simp only[A1]at h;cases h
theorem a4t:∀(ds:List D) (n:Nat),n9 ds=rp->c_ ds<=n->∀k∈ds,∀{s:ao} {v:ai} {as:List aC} {Q:Bool->ao->Prop},Reads s.heap v k as->Q rp s->aW (a_ prog w) A (eqIsQuiet n v) Q E s
 |[],n,_,_,k,hk,s,v,as,Q,r,h=>nomatch hk
 |d::ds,n,lY,hn,k,hk,s,v,as,Q,r,h=>by
  simp only[n9,aL]at lY;simp only[c_]at hn;rcases aN.mp hk with e|hk
  ·rw[e]at r;exact a4s d n lY.1 (by lia) r h
  ·exact a4t ds n lY.2 (by lia) k hk r h
end
end
noncomputable def b0G:DecidableEq D:=λa b=>Classical.propDecidable (a=b)
noncomputable def b2A(prog:bA)(w:bQ):@HeapKind prog w D b0G:=
 letI:DecidableEq D:=b0G
 {
  is:=λh k a=>A1 k=rp/\k.depth<=7/\∃as,Reads h (.ref a) k as
  hash:=hashD
  draws:=s9
  room:=λA=>A.units+8<dF
  inj:=λ⟨hx,_,_,r⟩ ⟨_,_,_,r'⟩=>SeqAt.Reads.unique _ _ _ _ _ (V2 _ hx) r r'
  keeps:=λ⟨hx,hd,_,r⟩ ho jO hs=>⟨hx,hd,_,a2J ho jO hs _ hx r⟩
  pyHash:=λhu ⟨hx,hd,_,r⟩ h=>a2K _ hx (by lia) r h
  eqBool:=λ{A E s x y a b Q} hu ⟨hx,hd,_,r⟩ ⟨hy,jO,_,r'⟩ h=>by
   refine sN x y A s _ _ _ _ r r' (V2 _ hx) (V2 _ hy) (by have:=lZ x.depth y.depth;lia) _ _ _ _ ?_;have e:aR x y=@decide (x=y) (b0G x y):=by
    by_cases c:x=y
    ·rw[@aV _ (b0G x y) c];exact (V3 x y hx hy).mpr c
    ·rw[@aZ _ (b0G x y) c];cases q:aR x y with
     |false=>rfl
     |true=>exact absurd ((V3 x y hx hy).mp q) c
   rw[e];exact h
  quiet:=λ⟨hx,hd,_,r⟩ h=>a4s _ 8 hx (by lia) r h
 }
def Z4(e:D×V×V)(x:iS):Prop:=x.hash=hashD e.1/\RelV e.2.1 x.key/\RelV e.2.2 x.val
def f9(a:aC)(es:List (D×V×V)):HO:=.ext λh=>(a==fA)=xn/\es.length<=br/\(es.map (·.1)).Nodup/\∃o ents ep,h.get? a=cz o/\o.ExactDict/\o.data=.dict ents ep/\gr Z4 es ents.toList
def Mu:HO->Prop
 |.lst _=>True
 |.dK _=>True
 |.ext _=>True
 |_=>False
abbrev MuO:={o:HO // Mu o}
def keyOk(kt:Bool)(k:D):Prop:=A1 k=rp/\k.depth<=7/\(kt=rp->∃ds,k=.tuple ds)/\(kt=xn->∃i,k=.int i)
end VS
namespace VS
open L2
mutual
def imm:bw->Bool
 |.none=>rp
 |.bool _=>rp
 |.int _=>rp
 |.str _=>rp
 |.list _=>xn
 |.tuple ds=>c7 ds
 |.dict _=>xn
def c7:List bw->Bool
 |[]=>rp
 |d::ds=>imm d&&c7 ds
end
def SqX(K:ag)(H:Hp)(a:aC)(xs:List V):Prop:=
 Rd H a (.lst xs)\/∃(its:List ai) (n:Nat),K.lookup a=cz {cls:=.type "list",data:=.seq its.toArray n}/\its.length<=br/\Vals xs its
def SqX.l(h:SqX K H a xs):SqL K H a xs:=by
 rcases h with h|⟨its,n,h1,h2,h3⟩
 ·exact .inl h
 ·exact .inr ⟨_,its.toArray,n,h1,rfl,rfl,rfl,by simpa using h2,by simpa using h3⟩
theorem SqX.ok{X:Cx}(h:SqX X.K H a xs)(I:Inv X pins Y H s):xs.length<=br/\∃(its:List ai) (n:Nat),Vals xs its/\s.heap.get? a=cz {cls:=.type "list",data:=.seq its.toArray n}:=by
 rcases h with h|⟨its,n,h1,h2,h3⟩
 ·exact h.ok I.hok
 ·exact⟨by rw[h3.length];exact h2,its,n,h3,I.kIn _ _ h1⟩
mutual
theorem V4:∀d:bw,A1 d=rp->imm d=rp
 |.int _,_=>by simp only[imm]
 |.tuple ds,h=>by
  simp only[A1]at h;simp only[imm];exact a1O ds h
 |.none,h|.bool _,h|.str _,h|.list _,h|.dict _,h=>by simp only[A1]at h;cases h
theorem a1O:∀ds:List bw,n9 ds=rp->c7 ds=rp
 |[],_=>by simp only[c7]
 |d::ds,h=>by
  simp only[n9,aL]at h;simp only[c7,aL];exact⟨V4 d h.1,a1O ds h.2⟩
end
mutual
def Den(K:ag)(H:Hp):V->bw->Prop
 |v,.none=>v=.non
 |v,.bool b=>v=.bl b
 |v,.int i=>v=.int i
 |v,.str x=>v=.str x
 |v,.list ds=>∃a xs,v=.ref a/\SqX K H a xs/\DenAll K H xs ds
 |v,.tuple ds=>∃a xs,v=.ref a/\SqT K H a xs/\DenAll K H xs ds
 |v,.dict kvs=>∃a es,v=.ref a/\H a=cz (f9 a es)/\DenKV K H es kvs
def DenAll(K:ag)(H:Hp):List V->List bw->Prop
 |xs,[]=>xs=[]
 |xs,d::ds=>∃v r,xs=v::r/\Den K H v d/\DenAll K H r ds
def DenKV(K:ag)(H:Hp):List (bw×V×V)->List (bw×bw)->Prop
 |es,[]=>es=[]
 |es,(k,d)::r=>∃e q,es=e::q/\e.1=k/\Den K H e.2.1 k/\Den K H e.2.2 d/\DenKV K H q r
end
def Rd.up(h:Rd H a u)(e:Same H H'):Rd H' a u:=by
 rcases h with h|⟨o,h⟩
 ·exact .inl (e _ _ h)
 ·exact .inr ⟨o,e _ _ h⟩
def N7(h:SqX K H a xs)(e:Same H H'):SqX K H' a xs:=h.imp (λq=>Rd.up q e) id
def a2L(h:SqT K H a xs)(e:Same H H'):SqT K H' a xs:=h.imp (λq=>Rd.up q e) id
mutual
theorem Den.mono{K:ag}{H H':Hp}(e:Same H H'):∀(d:bw) {v:V},Den K H v d->Den K H' v d
 |.none,_,h=>by simpa only [Den]using h
 |.bool _,_,h=>by simpa only [Den]using h
 |.int _,_,h=>by simpa only [Den]using h
 |.str _,_,h=>by simpa only [Den]using h
 |.list ds,_,h=>by
  simp only[Den]at h ⊢;obtain⟨a,xs,h1,h2,h3⟩:=h;exact⟨a,xs,h1,N7 h2 e,DenAll.mono e ds h3⟩
 |.tuple ds,_,h=>by
  simp only[Den]at h ⊢;obtain⟨a,xs,h1,h2,h3⟩:=h;exact⟨a,xs,h1,a2L h2 e,DenAll.mono e ds h3⟩
 |.dict kvs,_,h=>by
  simp only[Den]at h ⊢;obtain⟨a,es,h1,h2,h3⟩:=h;exact⟨a,es,h1,e _ _ h2,DenKV.mono e kvs h3⟩
theorem DenAll.mono{K:ag}{H H':Hp}(e:Same H H'):∀(ds:List bw) {xs:List V},DenAll K H xs ds->DenAll K H' xs ds
 |[],_,h=>by simpa only [DenAll]using h
 |d::ds,_,h=>by
  simp only[DenAll]at h ⊢;obtain⟨v,r,h1,h2,h3⟩:=h;exact⟨v,r,h1,Den.mono e d h2,DenAll.mono e ds h3⟩
theorem DenKV.mono(e:Same H H'):∀(kvs:List (bw×bw)) {es:List (bw×V×V)},DenKV K H es kvs->DenKV K H' es kvs
 |[],_,h=>by simpa only [DenKV]using h
 | (k,d)::r,_,h=>by
  simp only[DenKV]at h ⊢;obtain⟨x,q,h1,h2,h3,h4,h5⟩:=h;exact⟨x,q,h1,h2,Den.mono e k h3,Den.mono e d h4,DenKV.mono e r h5⟩
end
section
variable {K:ag}{H H':Hp}
def Den.up{d:bw}{v:V}(h:Den K H v d)(e:Same H H'):Den K H' v d:=Den.mono e d h
def DenAll.up{ds:List bw}{xs:List V}(h:DenAll K H xs ds)(e:Same H H'):DenAll K H' xs ds:=DenAll.mono e ds h
def den_none:Den K H .non .none:=by simp only[Den]
def den_bool{b:Bool}:Den K H (.bl b) (.bool b):=by simp only[Den]
def den_int{i:Int}:Den K H (.int i) (.int i):=by simp only[Den]
def den_list{a:aC}{xs:List V}{ds:List bw}(h:SqX K H a xs)(q:DenAll K H xs ds):Den K H (.ref a) (.list ds):=by
 simp only[Den];exact⟨a,xs,rfl,h,q⟩
def den_tup{a:aC}{xs:List V}{ds:List bw}(h:SqT K H a xs)(q:DenAll K H xs ds):Den K H (.ref a) (.tuple ds):=by
 simp only[Den];exact⟨a,xs,rfl,h,q⟩
theorem a6t:∀{es:List (bw×V×V)} {ds:List bw},(∀e∈es,Den K H e.2.1 e.1)->DenAll K H (es.map (·.2.2)) ds->DenKV K H es ((es.map (·.1)).zip ds)
 |[],ds,_,h=>by
  cases ds with
  |nil=>simp only[cX,oI,DenKV]
  |cons d ds=>simp only[DenAll]at h;obtain⟨v,r,h1,_⟩:=h;cases h1
 |e::es,ds,hk,h=>by
  cases ds with
  |nil=>simp only[DenAll]at h;cases h
  |cons d ds=>
   simp only[DenAll]at h;obtain⟨v,r,h1,h2,h3⟩:=h;cases h1
   simp only[aB,dJ,DenKV];exact⟨e,es,rfl,rfl,hk e aK,h2,a6t (λe he=>hk e (ar _ he)) h3⟩
def a4u(h:H a=cz (f9 a es))(hk:∀e∈es,Den K H e.2.1 e.1)(hv:DenAll K H (es.map (·.2.2)) ds):Den K H (.ref a) (.dict ((es.map (·.1)).zip ds)):=by
 simp only[Den];exact⟨a,es,rfl,h,a6t hk hv⟩
def denAll_nil:DenAll K H [] []:=by simp only[DenAll]
def denAll_cons{v:V}{d:bw}{xs:List V}{ds:List bw}(h:Den K H v d)(q:DenAll K H xs ds):DenAll K H (v::xs) (d::ds):=by
 simp only[DenAll];exact⟨v,xs,rfl,h,q⟩
def Den.list_inv{v:V}{ds:List bw}(h:Den K H v (.list ds)):∃a xs,v=.ref a/\SqX K H a xs/\DenAll K H xs ds:=by simpa only [Den]using h
def Den.tup_inv{v:V}{ds:List bw}(h:Den K H v (.tuple ds)):∃a xs,v=.ref a/\SqT K H a xs/\DenAll K H xs ds:=by simpa only [Den]using h
def Den.dict_inv(h:Den K H v (.dict kvs)):∃a es,v=.ref a/\H a=cz (f9 a es)/\DenKV K H es kvs:=by simpa only [Den]using h
theorem DenKV.keys:∀{kvs:List (bw×bw)} {es:List (bw×V×V)},DenKV K H es kvs->es.map (·.1)=kvs.map (·.1)
 |[],_,h=>by simp only[DenKV]at h;rw[h];rfl
 | (k,d)::r,_,h=>by
  simp only[DenKV]at h;obtain⟨e,q,rfl,h1,_,_,h2⟩:=h;rw[aB,aB,DenKV.keys h2,h1]
theorem DenKV.vals:∀{kvs:List (bw×bw)} {es:List (bw×V×V)},DenKV K H es kvs->DenAll K H (es.map (·.2.2)) (kvs.map (·.2))
 |[],_,h=>by simp only[DenKV]at h;rw[h];simp only[cX,DenAll]
 | (k,d)::r,_,h=>by
  simp only[DenKV]at h;obtain⟨e,q,rfl,_,_,h1,h2⟩:=h;simp only[aB,DenAll];exact⟨_,_,rfl,h1,DenKV.vals h2⟩
theorem DenKV.kden:∀{kvs:List (bw×bw)} {es:List (bw×V×V)},DenKV K H es kvs->∀e∈es,Den K H e.2.1 e.1
 |[],_,h,e,he=>by simp only[DenKV]at h;rw[h]at he;cases he
 | (k,d)::r,_,h,e,he=>by
  simp only[DenKV]at h;obtain⟨e0,q,rfl,h0,h1,_,h2⟩:=h;rcases aN.mp he with z|z
  ·subst z;rw[h0];exact h1
  ·exact DenKV.kden h2 e z
def Den.int_inv{v:V}{i:Int}(h:Den K H v (.int i)):v=.int i:=by simpa only [Den]using h
def Den.bool_inv(h:Den K H v (.bool b)):v=.bl b:=by simpa only [Den]using h
def Den.none_inv(h:Den K H v .none):v=.non:=by simpa only [Den]using h
def Den.str_inv(h:Den K H v (.str x)):v=.str x:=by simpa only [Den]using h
def DenAll.cons_inv{xs:List V}{d:bw}{ds:List bw}(h:DenAll K H xs (d::ds)):∃v r,xs=v::r/\Den K H v d/\DenAll K H r ds:=by simpa only [DenAll]using h
def DenAll.nil_inv{xs:List V}(h:DenAll K H xs []):xs=[]:=by simpa only [DenAll]using h
theorem DenAll.length:∀{ds:List bw} {xs:List V},DenAll K H xs ds->xs.length=ds.length
 |[],_,h=>by rw[h.nil_inv];rfl
 |d::ds,_,h=>by
  obtain⟨v,r,rfl,_,h⟩:=h.cons_inv;rw[aS,aS,DenAll.length h]
theorem DenAll.get:∀{ds:List bw} {xs:List V} {i:Nat} {d:bw},DenAll K H xs ds->ds[i]?=cz d->∃v,xs[i]?=cz v/\Den K H v d
 |[],_,i,d,_,e=>by simp at e
 |d0::ds,_,0,d,h,e=>by
  obtain⟨v,r,rfl,h1,_⟩:=h.cons_inv;have:d0=d:=by simpa using e
  subst this;exact⟨v,rfl,h1⟩
 |d0::ds,_,i+1,d,h,e=>by
  obtain⟨v,r,rfl,_,h1⟩:=h.cons_inv;obtain⟨u,h2,h3⟩:=DenAll.get (i:=i) h1 (by simpa using e);exact⟨u,by simpa using h2,h3⟩
def DenAll.getV{ds:List bw}{xs:List V}{i:Nat}{v:V}(h:DenAll K H xs ds)(e:xs[i]?=cz v):∃d,ds[i]?=cz d/\Den K H v d:=by
 have hi:=(aD.mp e).1;rw[h.length]at hi;obtain⟨u,h1,h2⟩:=h.get (ab hi);rw[e]at h1;cases h1
 exact⟨_,ab hi,h2⟩
theorem DenAll.append:∀{ds:List bw} {xs:List V} {es:List bw} {ys:List V},DenAll K H xs ds->DenAll K H ys es->DenAll K H (xs++ys) (ds++es)
 |[],_,_,_,h,q=>by rw[h.nil_inv];exact q
 |d::ds,_,_,_,h,q=>by
  obtain⟨v,r,rfl,h1,h2⟩:=h.cons_inv;exact denAll_cons h1 (DenAll.append h2 q)
theorem DenAll.take:∀{ds:List bw} {xs:List V} (n:Nat),DenAll K H xs ds->DenAll K H (xs.take n) (ds.take n)
 |_,_,0,_=>by rw[List.take_zero,List.take_zero];exact denAll_nil
 |[],_,n+1,h=>by rw[h.nil_inv];exact denAll_nil
 |d::ds,_,n+1,h=>by
  obtain⟨v,r,rfl,h1,h2⟩:=h.cons_inv;exact denAll_cons h1 (DenAll.take n h2)
theorem DenAll.drop:∀{ds:List bw} {xs:List V} (n:Nat),DenAll K H xs ds->DenAll K H (xs.drop n) (ds.drop n)
 |_,_,0,h=>h
 |[],_,n+1,h=>by rw[h.nil_inv];exact denAll_nil
 |d::ds,_,n+1,h=>by
  obtain⟨v,r,rfl,_,h2⟩:=h.cons_inv;exact DenAll.drop n h2
theorem DenAll.ints:∀(ns:List Int),DenAll K H (ns.map V.int) (ns.map aP)
 |[]=>denAll_nil
 |n::ns=>denAll_cons den_int (DenAll.ints ns)
end
def cut(H:Hp)(F:List aC):Hp:=λa=>if a∈F then p4 else H a
section
variable {H H':Hp}{F F':List aC}{a:aC}{o:HO}
def X6(h:a∉F):cut H F a=H a:=by unfold cut;rw[aM h]
def V5(h:a∈F):cut H F a=p4:=by unfold cut;rw[aE h]
def m9(h:cut H F a=cz o):a∉F/\H a=cz o:=by
 by_cases q:a∈F
 ·rw[V5 q]at h;cases h
 ·rw[X6 q]at h;exact⟨q,h⟩
def i7(h1:a∉F)(h2:H a=cz o):cut H F a=cz o:=by rw[X6 h1];exact h2
def j6:Same (cut H F) H:=λ_ _ h=>(m9 h).2
def K2(e:Same H H')(hF:∀a o,H a=cz o->a∈F'->a∈F):Same (cut H F) (cut H' F'):=λa o h=>by
 obtain⟨h1,h2⟩:=m9 h;exact i7 (λq=>h1 (hF a o h2 q)) (e _ _ h2)
def K3(e:Same H H'):Same (cut H F) (cut H' F):=K2 e λ_ _ _ q=>q
def C7(hF:∀a,a∈F'->a∈F):Same (cut H F) (cut H F'):=K2 (Same.refl H) λa _ _ q=>hF a q
def H9:cut H []=H:=by
 funext a
 exact X6 (by simp)
end
inductive Ty where
 |i|f|l (t:Ty)|tp (ts:List Ty)|d (kt:Bool) (t:Ty)
mutual
def Ty.shut:Ty->Bool
 |.i=>rp
 |.f=>xn
 |.l u=>u.shut
 |.tp us=>Ty.shutAll us
 |.d _ u=>u.shut
def Ty.shutAll:List Ty->Bool
 |[]=>rp
 |u::us=>u.shut&&Ty.shutAll us
end
def ListAll(R:V->bw->List aC->Prop):List V->List bw->List aC->Prop
 |xs,[],fp=>xs=[]/\fp=[]
 |xs,d::ds,fp=>∃v r f g,xs=v::r/\fp=f++g/\R v d f/\ListAll R r ds g
mutual
def Own(K:ag)(H:Hp)(F:List aC):Ty->V->bw->List aC->Prop
 |.i,v,d,fp=>fp=[]/\imm d=rp/\Den K (cut H F) v d
 |.f,v,d,fp=>fp=[]/\Den K (cut H F) v d
 |.l u,v,d,fp=>(fp=[]/\imm d=rp/\Den K (cut H F) v d)\/∃a xs ds fs,v=.ref a/\H a=cz (.lst xs)/\d=.list ds/\fp=a::fs/\ListAll (Own K H F u) xs ds fs
 |.tp us,v,d,fp=>(fp=[]/\(imm d=rp/\∀ds,d≠.tuple ds)/\Den K (cut H F) v d)\/∃a xs ds,v=.ref a/\H a=cz (.tup xs)/\a∉F/\d=.tuple ds/\OwnTs K H F us xs ds fp
 |.d kt u,v,d,fp=>∃a es ds fs,v=.ref a/\H a=cz (f9 a es)/\d=.dict ((es.map (·.1)).zip ds)/\fp=a::fs/\((es.map (·.1)).Nodup/\∀e∈es,keyOk kt e.1/\Den K (cut H F) e.2.1 e.1)/\ListAll (Own K H F u) (es.map (·.2.2)) ds fs
def OwnTs(K:ag)(H:Hp)(F:List aC):List Ty->List V->List bw->List aC->Prop
 |[],xs,ds,fp=>xs=[]/\ds=[]/\fp=[]
 |u::us,xs,ds,fp=>∃v r d e f g,xs=v::r/\ds=d::e/\fp=f++g/\Own K H F u v d f/\OwnTs K H F us r e g
end
section
variable {R R':V->bw->List aC->Prop}
def p7:ListAll R [] [] []:=by simp only[ListAll];exact⟨trivial,trivial⟩
def n5(h:R v d f)(q:ListAll R xs ds g):ListAll R (v::xs) (d::ds) (f++g):=by
 simp only[ListAll];exact⟨v,xs,f,g,rfl,rfl,h,q⟩
def ListAll.nil_inv(h:ListAll R xs [] fp):xs=[]/\fp=[]:=by simpa only [ListAll]using h
def ListAll.cons_inv(h:ListAll R xs (d::ds) fp):∃v r f g,xs=v::r/\fp=f++g/\R v d f/\ListAll R r ds g:=by simpa only [ListAll]using h
theorem ListAll.length:∀{ds:List bw} {xs:List V} {fp:List aC},ListAll R xs ds fp->xs.length=ds.length
 |[],_,_,h=>by rw[h.nil_inv.1];rfl
 |d::ds,_,_,h=>by
  obtain⟨v,r,f,g,rfl,_,_,h⟩:=h.cons_inv;rw[aS,aS,ListAll.length h]
theorem ListAll.imp:∀{ds:List bw} {xs:List V} {fp:List aC},ListAll R xs ds fp->(∀v d f,(∀a∈f,a∈fp)->d∈ds->R v d f->R' v d f)->ListAll R' xs ds fp
 |[],_,_,h,_=>by obtain⟨rfl,rfl⟩:=h.nil_inv;exact p7
 |d::ds,_,_,h,q=>by
  obtain⟨v,r,f,g,rfl,rfl,h1,h2⟩:=h.cons_inv;exact n5 (q v d f (λa ha=>ak _ ha) aK h1) (ListAll.imp h2 λv d f' hf hd hR=>q v d f' (λa ha=>aj _ (hf a ha)) (ar _ hd) hR)
theorem ListAll.append:∀{ds es:List bw} {xs ys:List V} {fp gp:List aC},ListAll R xs ds fp->ListAll R ys es gp->ListAll R (xs++ys) (ds++es) (fp++gp)
 |[],_,_,_,_,_,h,q=>by obtain⟨rfl,rfl⟩:=h.nil_inv;exact q
 |d::ds,_,_,_,_,_,h,q=>by
  obtain⟨v,r,f,g,rfl,rfl,h1,h2⟩:=h.cons_inv;rw[aH];exact n5 h1 (ListAll.append h2 q)
theorem ListAll.at_:∀{ds:List bw} {xs:List V} {fp:List aC} {k:Nat} {d:bw},ListAll R xs ds fp->ds[k]?=cz d->
  ∃v f pre post,xs[k]?=cz v/\R v d f/\fp=pre++(f++post)/\ListAll R (xs.take k) (ds.take k) pre/\ListAll R (xs.drop (k+1)) (ds.drop (k+1)) post
 |[],_,_,k,d,_,e=>by simp at e
 |d0::ds,_,_,0,d,h,e=>by
  obtain⟨v,r,f,g,rfl,rfl,h1,h2⟩:=h.cons_inv;have:d0=d:=by simpa using e
  subst this;exact⟨v,f,[],g,rfl,h1,rfl,p7,h2⟩
 |d0::ds,_,_,k+1,d,h,e=>by
  obtain⟨v,r,f,g,rfl,rfl,h1,h2⟩:=h.cons_inv;obtain⟨u,f',pre,post,e1,e2,e3,e4,e5⟩:=ListAll.at_ (k:=k) h2 (by simpa using e);subst e3;exact⟨u,f',f++pre,post,by simpa using e1,e2,by rw[aH],n5 h1 e4,e5⟩
end
section
variable {K:ag}{H H':Hp}{F F':List aC}
theorem ListAll.den(hR:∀v d f,R v d f->Den K H v d):∀{ds:List bw} {xs:List V} {fp:List aC},ListAll R xs ds fp->DenAll K H xs ds
 |[],_,_,h=>by rw[h.nil_inv.1];exact denAll_nil
 |d::ds,_,_,h=>by
  obtain⟨v,r,f,g,rfl,_,h1,h2⟩:=h.cons_inv;exact denAll_cons (hR _ _ _ h1) (ListAll.den hR h2)
mutual
theorem Own.den:∀(u:Ty) {v:V} {d:bw} {fp:List aC},Own K H F u v d fp->Den K H v d
 |.i,_,_,_,h=>by simp only[Own]at h;exact h.2.2.up j6
 |.f,_,_,_,h=>by simp only[Own]at h;exact h.2.up j6
 |.l u,_,_,_,h=>by
  simp only[Own]at h;rcases h with⟨_,_,h⟩|⟨a,xs,ds,fs,rfl,h1,rfl,_,h2⟩
  ·exact h.up j6
  ·exact den_list (.inl (.inl h1)) (ListAll.den (λv d f q=>Own.den u q) h2)
 |.tp us,_,_,_,h=>by
  simp only[Own]at h;rcases h with⟨_,_,h⟩|⟨a,xs,ds,rfl,h1,_,rfl,h2⟩
  ·exact h.up j6
  ·exact den_tup (SqT.of h1) (OwnTs.den us h2)
 |.d kt u,_,_,_,h=>by
  simp only[Own]at h;obtain⟨a,es,ds,fs,rfl,h1,rfl,_,h3,h2⟩:=h;exact a4u h1 (λe he=>(h3.2 e he).2.up j6) (ListAll.den (λv d f q=>Own.den u q) h2)
theorem OwnTs.den:∀(us:List Ty) {xs:List V} {ds:List bw} {fp:List aC},OwnTs K H F us xs ds fp->DenAll K H xs ds
 |[],_,_,_,h=>by simp only[OwnTs]at h;obtain⟨rfl,rfl,_⟩:=h;exact denAll_nil
 |u::us,_,_,_,h=>by
  simp only[OwnTs]at h;obtain⟨v,r,d,e,f,g,rfl,rfl,_,h1,h2⟩:=h;exact denAll_cons (Own.den u h1) (OwnTs.den us h2)
end
mutual
theorem Own.frame(e:Same (cut H F) (cut H' F')):∀(u:Ty) {v:V} {d:bw} {fp:List aC},Own K H F u v d fp->(∀a∈fp,H' a=H a)->Own K H' F' u v d fp
 |.i,_,_,_,h,_=>by simp only[Own]at h ⊢;exact⟨h.1,h.2.1,h.2.2.up e⟩
 |.f,_,_,_,h,_=>by simp only[Own]at h ⊢;exact⟨h.1,h.2.up e⟩
 |.l u,_,_,_,h,k=>by
  simp only[Own]at h ⊢;rcases h with⟨h1,h2,h⟩|⟨a,xs,ds,fs,rfl,h1,rfl,rfl,h2⟩
  ·exact .inl ⟨h1,h2,h.up e⟩
  ·exact .inr ⟨a,xs,ds,fs,rfl,(k a aK).trans h1,rfl,rfl,h2.imp λv d f hf _ q=>Own.frame e u q λb hb=>k b (ar _ (hf b hb))⟩
 |.tp us,_,_,_,h,k=>by
  simp only[Own]at h ⊢;rcases h with⟨h1,h2,h⟩|⟨a,xs,ds,rfl,h1,h0,rfl,h2⟩
  ·exact .inl ⟨h1,h2,h.up e⟩
  obtain⟨h3,h4⟩:=m9 (e a _ (i7 h0 h1));exact .inr ⟨a,xs,ds,rfl,h4,h3,rfl,OwnTs.frame e us h2 k⟩
 |.d kt u,_,_,_,h,k=>by
  simp only[Own]at h ⊢;obtain⟨a,es,ds,fs,rfl,h1,rfl,rfl,h3,h2⟩:=h;exact⟨a,es,ds,fs,rfl,(k a aK).trans h1,rfl,rfl,⟨h3.1,λx hx=>⟨(h3.2 x hx).1,(h3.2 x hx).2.up e⟩⟩,h2.imp λv d f hf _ q=>Own.frame e u q λb hb=>k b (ar _ (hf b hb))⟩
theorem OwnTs.frame(e:Same (cut H F) (cut H' F')):∀(us:List Ty) {xs:List V} {ds:List bw} {fp:List aC},OwnTs K H F us xs ds fp->(∀a∈fp,H' a=H a)->OwnTs K H' F' us xs ds fp
 |[],_,_,_,h,_=>by simpa only [OwnTs]using h
 |u::us,_,_,_,h,k=>by
  simp only[OwnTs]at h ⊢;obtain⟨v,r,d,e',f,g,rfl,rfl,rfl,h1,h2⟩:=h;exact⟨v,r,d,e',f,g,rfl,rfl,rfl,Own.frame e u h1 λa ha=>k a (ak _ ha),OwnTs.frame e us h2 λa ha=>k a (aj _ ha)⟩
end
theorem ListAll.lst{u:Ty}{R:V->bw->List aC->Prop}(hR:∀v d f,R v d f->∀a∈f,∃ys:MuO,H a=cz ys.1):∀{ds:List bw} {xs:List V} {fp:List aC},ListAll R xs ds fp->∀a∈fp,∃ys:MuO,H a=cz ys.1
 |[],_,_,h,a,ha=>by rw[h.nil_inv.2]at ha;cases ha
 |d::ds,_,_,h,a,ha=>by
  obtain⟨v,r,f,g,rfl,rfl,h1,h2⟩:=h.cons_inv;rcases ay.mp ha with z|z
  ·exact hR _ _ _ h1 a z
  ·exact ListAll.lst (u:=u) hR h2 a z
mutual
theorem Own.lst:∀(u:Ty) {v:V} {d:bw} {fp:List aC},Own K H F u v d fp->∀a∈fp,∃ys:MuO,H a=cz ys.1
 |.i,_,_,_,h,a,ha=>by simp only[Own]at h;rw[h.1]at ha;cases ha
 |.f,_,_,_,h,a,ha=>by simp only[Own]at h;rw[h.1]at ha;cases ha
 |.l u,_,_,_,h,b,hb=>by
  simp only[Own]at h;rcases h with⟨h1,_⟩|⟨a,xs,ds,fs,rfl,h1,rfl,rfl,h2⟩
  ·rw[h1]at hb;cases hb
  ·rcases aN.mp hb with z|z
   ·subst z;exact⟨⟨.lst xs,trivial⟩,h1⟩
   ·exact ListAll.lst (u:=u) (λv d f q=>Own.lst u q) h2 b z
 |.tp us,_,_,_,h,b,hb=>by
  simp only[Own]at h;rcases h with⟨h1,_⟩|⟨a,xs,ds,rfl,h1,_,rfl,h2⟩
  ·rw[h1]at hb;cases hb
  ·exact OwnTs.lst us h2 b hb
 |.d kt u,_,_,_,h,b,hb=>by
  simp only[Own]at h;obtain⟨a,es,ds,fs,rfl,h1,rfl,rfl,h3,h2⟩:=h;rcases aN.mp hb with z|z
  ·subst z;exact⟨⟨f9 b es,trivial⟩,h1⟩
  ·exact ListAll.lst (u:=u) (λv d f q=>Own.lst u q) h2 b z
theorem OwnTs.lst:∀(us:List Ty) {xs:List V} {ds:List bw} {fp:List aC},OwnTs K H F us xs ds fp->∀a∈fp,∃ys:MuO,H a=cz ys.1
 |[],_,_,_,h,a,ha=>by simp only[OwnTs]at h;rw[h.2.2]at ha;cases ha
 |u::us,_,_,_,h,b,hb=>by
  simp only[OwnTs]at h;obtain⟨v,r,d,e,f,g,rfl,rfl,rfl,h1,h2⟩:=h;rcases ay.mp hb with z|z
  ·exact Own.lst u h1 b z
  ·exact OwnTs.lst us h2 b z
end
def b5R(h:SqT K H a xs)(hF:∀a∈F,∃ys:MuO,H a=cz ys.1):SqT K (cut H F) a xs:=by
 rcases h with (h|⟨o,h⟩)|h
 ·refine .inl (.inl (i7 (λq=>?_) h));obtain⟨⟨ys,my⟩,e⟩:=hF a q;rw[h]at e;have e':=aF e;rw[show ys=_ from e'.symm]at my;exact my
 ·refine .inl (.inr ⟨o,i7 (λq=>?_) h⟩);obtain⟨⟨ys,my⟩,e⟩:=hF a q;rw[h]at e;have e':=aF e;rw[show ys=_ from e'.symm]at my;exact my
 ·exact .inr h
mutual
theorem Den.imm_out(hF:∀a∈F,∃ys:MuO,H a=cz ys.1):∀(d:bw) {v:V},imm d=rp->Den K H v d->Den K (cut H F) v d
 |.none,_,_,h=>by simpa only [Den]using h
 |.bool _,_,_,h=>by simpa only [Den]using h
 |.int _,_,_,h=>by simpa only [Den]using h
 |.str _,_,_,h=>by simpa only [Den]using h
 |.list ds,_,q,_=>by simp only[imm]at q;cases q
 |.tuple ds,_,q,h=>by
  simp only[imm]at q;obtain⟨a,xs,rfl,h1,h2⟩:=h.tup_inv;exact den_tup (b5R h1 hF) (DenAll.imm_out hF ds q h2)
 |.dict _,_,q,_=>by simp only[imm]at q;cases q
theorem DenAll.imm_out(hF:∀a∈F,∃ys:MuO,H a=cz ys.1):∀(ds:List bw) {xs:List V},c7 ds=rp->DenAll K H xs ds->DenAll K (cut H F) xs ds
 |[],_,_,h=>by simpa only [DenAll]using h
 |d::ds,_,q,h=>by
  simp only[c7,aL]at q;obtain⟨v,r,rfl,h1,h2⟩:=h.cons_inv;exact denAll_cons (Den.imm_out hF d q.1 h1) (DenAll.imm_out hF ds q.2 h2)
end
mutual
theorem Own.shut_out(hF:∀a∈F',∃ys:MuO,H a=cz ys.1):∀(u:Ty) {v:V} {d:bw} {fp:List aC},u.shut=rp->Own K H F u v d fp->Own K H F' u v d fp
 |.i,_,_,_,_,h=>by simp only[Own]at h ⊢;exact⟨h.1,h.2.1,(h.2.2.up j6).imm_out hF _ h.2.1⟩
 |.f,_,_,_,q,h=>by simp only[Ty.shut]at q;cases q
 |.l u,_,_,_,q,h=>by
  simp only[Ty.shut]at q;simp only[Own]at h ⊢;rcases h with⟨h1,h2,h⟩|⟨a,xs,ds,fs,rfl,h1,rfl,rfl,h2⟩
  ·exact .inl ⟨h1,h2,(h.up j6).imm_out hF _ h2⟩
  ·exact .inr ⟨a,xs,ds,fs,rfl,h1,rfl,rfl,h2.imp λv d f _ _ z=>Own.shut_out hF u q z⟩
 |.tp us,_,_,_,q,h=>by
  simp only[Ty.shut]at q;simp only[Own]at h ⊢;rcases h with⟨h1,h2,h⟩|⟨a,xs,ds,rfl,h1,h0,rfl,h2⟩
  ·exact .inl ⟨h1,h2,(h.up j6).imm_out hF _ h2.1⟩
  refine .inr ⟨a,xs,ds,rfl,h1,λz=>?_,rfl,OwnTs.shut_out hF us q h2⟩;obtain⟨⟨ys,my⟩,e⟩:=hF a z;rw[h1]at e;have e':=aF e;rw[show ys=_ from e'.symm]at my;exact my
 |.d kt u,_,_,_,q,h=>by
  simp only[Ty.shut]at q;simp only[Own]at h ⊢;obtain⟨a,es,ds,fs,rfl,h1,rfl,rfl,h3,h2⟩:=h;exact⟨a,es,ds,fs,rfl,h1,rfl,rfl,⟨h3.1,λx hx=>⟨(h3.2 x hx).1,((h3.2 x hx).2.up j6).imm_out hF _ (V4 _ (h3.2 x hx).1.1)⟩⟩,h2.imp λv d f _ _ z=>Own.shut_out hF u q z⟩
theorem OwnTs.shut_out(hF:∀a∈F',∃ys:MuO,H a=cz ys.1):∀(us:List Ty) {xs:List V} {ds:List bw} {fp:List aC},Ty.shutAll us=rp->OwnTs K H F us xs ds fp->OwnTs K H F' us xs ds fp
 |[],_,_,_,_,h=>by simpa only [OwnTs]using h
 |u::us,_,_,_,q,h=>by
  simp only[Ty.shutAll,aL]at q;simp only[OwnTs]at h ⊢;obtain⟨v,r,d,e,f,g,rfl,rfl,rfl,h1,h2⟩:=h;exact⟨v,r,d,e,f,g,rfl,rfl,rfl,Own.shut_out hF u q.1 h1,OwnTs.shut_out hF us q.2 h2⟩
end
end
end VS
namespace VS
open PySem.Spec L2
open SeqAt in
def items_eqAt{A:bN}{s:ao}{us ws:Array ai}(ra:ji s.heap us.toList xs as)(rb:ji s.heap ws.toList ys bs)(ha:bp xs=rp)(hb:bp ys=rp)
  (hu:A.in1.units+min (c_ xs) (c_ ys)<dF):∀(k:Nat) (k1:k<us.size) (k2:k<ws.size),EqAt A.in1 s us[k] ws[k] (pairEq xs ys k):=λk k1 k2=>
 eqAt_readsAll xs ys A.in1 s us.toList ws.toList as bs ra rb ha hb hu k k1 k2
open SeqAt in
def a7O{A:bN}{s:ao}(ra:Reads s.heap a da as)(rb:Reads s.heap b db bs)(ha:da.canLay0=rp)(hb:db.canLay0=rp)
  (hu:A.units+min da.depth db.depth<dF):RcNeAt A s a b (!aR da db):=by
 have u0:=room_here hu;cases ra with
 |dict=>exact nomatch ha
 |none=>cases rb with
  |dict=>exact nomatch hb
  |none=>exact RcNeAt.none_none
  |bool y=>exact RcNeAt.none_bool y
  |int y v=>exact RcNeAt.none_int y v
  |str y v=>exact RcNeAt.none_str y v
  |list c1 c2 c3 c4=>exact RcNeAt.none_list ⟨_,c1,c2,_,c3⟩ u0
  |tuple c1 c2 c3 c4=>exact RcNeAt.none_tuple ⟨_,c1,c2,_,c3⟩ u0
 |bool x=>cases rb with
  |dict=>exact nomatch hb
  |none=>exact RcNeAt.bool_none x
  |bool y=>exact RcNeAt.bool_bool x y
  |int y v=>exact RcNeAt.bool_int x y v
  |str y v=>exact RcNeAt.bool_str x y v
  |list c1 c2 c3 c4=>exact RcNeAt.bool_list x ⟨_,c1,c2,_,c3⟩ u0
  |tuple c1 c2 c3 c4=>exact RcNeAt.bool_tuple x ⟨_,c1,c2,_,c3⟩ u0
 |int x t=>cases rb with
  |dict=>exact nomatch hb
  |none=>exact RcNeAt.int_none x t
  |bool y=>exact RcNeAt.int_bool x t y
  |int y v=>exact RcNeAt.int_int x t y v
  |str y v=>exact RcNeAt.int_str x t y v
  |list c1 c2 c3 c4=>exact RcNeAt.int_list x t ⟨_,c1,c2,_,c3⟩ u0
  |tuple c1 c2 c3 c4=>exact RcNeAt.int_tuple x t ⟨_,c1,c2,_,c3⟩ u0
 |str x t=>cases rb with
  |dict=>exact nomatch hb
  |none=>exact RcNeAt.str_none x t
  |bool y=>exact RcNeAt.str_bool x t y
  |int y v=>exact RcNeAt.str_int x t y v
  |str y v=>exact RcNeAt.str_str x t y v
  |list c1 c2 c3 c4=>exact RcNeAt.str_list x t ⟨_,c1,c2,_,c3⟩ u0
  |tuple c1 c2 c3 c4=>exact RcNeAt.str_tuple x t ⟨_,c1,c2,_,c3⟩ u0
 |@list la oa us na xs fa c1 c2 c3 c4=>
  have sa:s.heap.IsList la us:=⟨oa,c1,c2,na,c3⟩;cases rb with
  |dict=>exact nomatch hb
  |none=>exact RcNeAt.list_none sa u0
  |bool y=>exact RcNeAt.list_bool y sa u0
  |int y v=>exact RcNeAt.list_int y v sa u0
  |str y v=>exact RcNeAt.list_str y v sa u0
  |tuple e1 e2 e3 e4=>exact RcNeAt.list_tuple sa ⟨_,e1,e2,_,e3⟩ u0
  |@list lb ob ws nb ys fb e1 e2 e3 e4=>
   have sb:s.heap.IsList lb ws:=⟨ob,e1,e2,nb,e3⟩;have z1:us.size=xs.length:=by simpa using pY xs _ _ c4
   have z2:ws.size=ys.length:=by simpa using pY ys _ _ e4
   have pr:=items_eqAt c4 e4 ha hb (room_in hu);show RcNeAt A s (.ref la) (.ref lb) (!cy xs ys);by_cases z:us.size=ws.size
   ·rw[<-eqvAll_same_length (show xs.length=ys.length by lia),<-z1];exact RcNeAt.lists sa sb z u0 pr
   ·rw[eqvAll_other_length (show xs.length≠ys.length by lia)];exact RcNeAt.lists_lengths sa sb (bne_iff_ne.mpr z) u0
 |@tuple la oa us na xs fa c1 c2 c3 c4=>
  have sa:s.heap.IsTuple la us:=⟨oa,c1,c2,na,c3⟩;cases rb with
  |dict=>exact nomatch hb
  |none=>exact RcNeAt.tuple_none sa u0
  |bool y=>exact RcNeAt.tuple_bool y sa u0
  |int y v=>exact RcNeAt.tuple_int y v sa u0
  |str y v=>exact RcNeAt.tuple_str y v sa u0
  |list e1 e2 e3 e4=>exact RcNeAt.tuple_list sa ⟨_,e1,e2,_,e3⟩ u0
  |@tuple lb ob ws nb ys fb e1 e2 e3 e4=>
   have sb:s.heap.IsTuple lb ws:=⟨ob,e1,e2,nb,e3⟩;have z1:us.size=xs.length:=by simpa using pY xs _ _ c4
   have z2:ws.size=ys.length:=by simpa using pY ys _ _ e4
   have pr:=items_eqAt c4 e4 ha hb (room_in hu);show RcNeAt A s (.ref la) (.ref lb) (!cy xs ys);rw[<-eqvAll_eq xs ys,<-z1,<-z2];exact RcNeAt.tuples sa sb u0 pr
mutual
theorem Den.reads{X:Cx}{pins:List (aC×gc)}{Y:St}{H:Hp}{s:ao}(I:Inv X pins Y H s):∀(d:bw) {v:V} {u:ai},d.canLay0=rp->Den X.K H v d->RelV v u->∃as,Reads s.heap u d as
 |.none,v,u,_,q,r=>by
  cases q.none_inv
  cases (show u=bD from r)
  exact⟨_,.none⟩
 |.bool b,v,u,_,q,r=>by
  cases q.bool_inv
  cases (show u=mW b from r)
  exact⟨_,.bool b⟩
 |.int i,v,u,_,q,r=>by
  cases q.int_inv
  obtain⟨t,rfl⟩:=r;exact⟨_,.int i t⟩
 |.str x,v,u,_,q,r=>by
  cases q.str_inv
  obtain⟨t,rfl⟩:=r;exact⟨_,.str x t⟩
 |.list ds,v,u,hl,q,r=>by
  obtain⟨a,xs,rfl,h1,h2⟩:=q.list_inv;cases (show u=bt a from r)
  obtain⟨z,its,n,rv,e⟩:=h1.ok I;obtain⟨as,ra⟩:=DenAll.reads I ds hl h2 rv;exact⟨_,.list e rfl rfl (by simpa using ra)⟩
 |.tuple ds,v,u,hl,q,r=>by
  obtain⟨a,xs,rfl,h1,h2⟩:=q.tup_inv;cases (show u=bt a from r)
  obtain⟨its,rv,⟨o,e,c,n,d⟩,_⟩:=I.tuple h1;obtain⟨as,ra⟩:=DenAll.reads I ds hl h2 rv;exact⟨_,.tuple e c d (by simpa using ra)⟩
 |.dict _,_,_,hl,_,_=>nomatch hl
theorem DenAll.reads{X:Cx}{pins:List (aC×gc)}{Y:St}{H:Hp}{s:ao}(I:Inv X pins Y H s):∀(ds:List bw) {xs:List V} {us:List ai},bp ds=rp->DenAll X.K H xs ds->Vals xs us->∃as,ji s.heap us ds as
 |[],xs,us,_,q,r=>by
  cases q.nil_inv
  cases r
  exact⟨_,.nil⟩
 |d::ds,xs,us,hl,q,r=>by
  have tw:d.canLay0=rp/\bp ds=rp:=by simpa[bp]using hl
  obtain⟨v,rs,rfl,h1,h2⟩:=q.cons_inv;cases r with
  |cons r1 r2=>
   obtain⟨as,ra⟩:=Den.reads I d tw.1 h1 r1;obtain⟨bs,rb⟩:=DenAll.reads I ds tw.2 h2 r2;exact⟨_,.cons ra rb⟩
end
def OpS(X:Cx)(f:ai->ai->AE ai)(g:D->D->Option D):Prop:=
 ∃r,OpR X f r/\∀(x y:V) (H:Hp) (a b d:D) (Q:VK),Den X.K H x a->Den X.K H y b->g a b=cz d->(∀v,imm d=rp->(∀H',Den X.K H' v d)->Q v H)->r x y H Q
def a6u(X:Cx)(f:ai)(g:List D->Option D):Prop:=
 ∃r,CallR X f r/\∀(xs:List V) (H:Hp) (ds:List D) (d:D) (Q:VK),DenAll X.K H xs ds->g ds=cz d->(∀v,imm d=rp->(∀H',Den X.K H' v d)->Q v H)->r xs H Q
def d2I(p:Int->Int->Bool)(g:Int->Int->D):D->D->Option D
 |.int a,.int b=>if p a b then cz (g a b) else p4
 |_,_=>p4
def a2M(h:d2I p g a b=cz d):∃i j,a=.int i/\b=.int j/\p i j=rp/\d=g i j:=by
 cases a with
 |int i=>
  cases b with
  |int j=>
   have h':(if p i j=rp then cz (g i j) else p4)=cz d:=h;by_cases c:p i j=rp
   ·rw[aE c]at h';exact⟨i,j,rfl,rfl,c,(aF h').symm⟩
   ·rw[aM c]at h';cases h'
  |_=>cases h
 |_=>cases h
def pT:Int->Int->Bool:=λ_ _=>rp
abbrev G6:D->D->Option D:=d2I pT λa b=>.int (a+b)
abbrev Y7:D->D->Option D:=d2I pT λa b=>.int (a-b)
def b0H(a b:Int):Bool:=decide (a.natAbs<2^64)||decide (b.natAbs<2^64)
abbrev a0C:D->D->Option D:=d2I b0H λa b=>.int (a*b)
def b8Y(_ b:Int):Bool:=decide (0<b)
abbrev K4:D->D->Option D:=d2I b8Y λa b=>.int (a % b)
def b5S(_ b:Int):Bool:=decide (0<b)&&decide (b<1073741824)
abbrev b5T:D->D->Option D:=d2I b5S λa b=>.int (a / b)
def b0I(a b:Int):Bool:=decide (0<=b)&&decide (b<=1000000)&&decide (a.natAbs<2^64)
abbrev b0J:D->D->Option D:=d2I b0I λa b=>.int (a^b.toNat)
abbrev dLt:D->D->Option D:=d2I pT λa b=>.bool (decide (a<b))
abbrev dLe:D->D->Option D:=d2I pT λa b=>.bool (decide (a<=b))
abbrev dGt:D->D->Option D:=d2I pT λa b=>.bool (decide (b<a))
abbrev dGe:D->D->Option D:=d2I pT λa b=>.bool (decide (b<=a))
def b2B(neg:Bool)(a b:D):Option D:=if a.canLay0&&b.canLay0&&decide (a.depth<=450) then cz (.bool (neg !=aR a b)) else p4
abbrev dEq:D->D->Option D:=b2B xn
abbrev dNe:D->D->Option D:=b2B rp
def isN:D->Bool
 |.none=>rp
 |_=>xn
def a7P(neg:Bool)(a b:D):Option D:=if isN b then cz (.bool (neg !=isN a)) else p4
def c3j(neg:Bool):D->D->Option D
 |.bool a,.bool b=>cz (.bool (neg !=(a==b)))
 |_,_=>p4
section
variable {X:Cx}
def b5U{f:ai->ai->AE ai}{C:Int->Int->Prop}{p:Int->Int->Bool}{g:Int->Int->Int}(ho:OpR X f (rI C λi j=>.int (g i j)))(hp:∀i j,p i j=rp->C i j):OpS X f (d2I p λa b=>.int (g a b)):=by
 refine⟨_,ho,λx y H a b d Q ha hb hg q=>?_⟩;obtain⟨i,j,rfl,rfl,c,rfl⟩:=a2M hg;exact⟨i,j,ha.int_inv,hb.int_inv,hp i j c,q _ (by simp only[imm]) λ_=>den_int⟩
def b7Y{f:ai->ai->AE ai}{g:Int->Int->Int}(ho:OpR X f (rI0 λi j=>.int (g i j))):OpS X f (d2I pT λa b=>.int (g a b)):=by
 refine⟨_,ho,λx y H a b d Q ha hb hg q=>?_⟩;obtain⟨i,j,rfl,rfl,c,rfl⟩:=a2M hg;exact⟨i,j,ha.int_inv,hb.int_inv,q _ (by simp only[imm]) λ_=>den_int⟩
def a9q{f:ai->ai->AE ai}{g:Int->Int->Bool}(ho:OpR X f (rI0 λi j=>.bl (g i j))):OpS X f (d2I pT λa b=>.bool (g a b)):=by
 refine⟨_,ho,λx y H a b d Q ha hb hg q=>?_⟩;obtain⟨i,j,rfl,rfl,c,rfl⟩:=a2M hg;exact⟨i,j,ha.int_inv,hb.int_inv,q _ (by simp only[imm]) λ_=>den_bool⟩
def v8:OpS X (gn .Add) G6:=b7Y b8K
def Q3:OpS X (gn .Sub) Y7:=b7Y b8L
def Q4:OpS X (gn .Mult) a0C:=b5U b8M λi j h=>by
 unfold b0H at h;rw[me]at h;rcases h with h|h
 ·have:=bG h;exact .inl ⟨by lia,by lia⟩
 ·have:=bG h;exact .inr ⟨by lia,by lia⟩
def x5:OpS X (gn .Mod) K4:=b5U b8N λi j h=>bG h
def b8Z:OpS X (gn .FloorDiv) b5T:=b5U b5C λi j h=>by
 unfold b5S at h;rw[aL]at h;exact⟨bG h.1,bG h.2⟩
def a5m:OpS X (gn .Pow) b0J:=b5U b8O λi j h=>by
 unfold b0I at h;rw[aL,aL]at h;exact⟨bG h.1.1,bG h.1.2,bG h.2⟩
def c1o:OpS X (cR .Lt) dLt:=a9q c1f
def b2C:OpS X (cR .LtE) dLe:=a9q c1g
def a4v:OpS X (cR .Gt) dGt:=a9q c1h
def c1p:OpS X (cR .GtE) dGe:=a9q c1i
def b9a(K:ag)(neg:Bool):R2:=λx y H Q=>∃d e,Den K H x d/\Den K H y e/\d.canLay0=rp/\e.canLay0=rp/\d.depth<=450/\Q (.bl (neg !=aR d e)) H
def b2D(hu:X.A.units+464<dF):OpR X (cR .Eq) (b9a X.K xn):=by
 intro pins s Y H x y v u Q I rx ry h;obtain⟨d,e,h1,h2,c1,c2,hd,q⟩:=h;obtain⟨as,ra⟩:=Den.reads I d c1 h1 rx;obtain⟨bs,rb⟩:=Den.reads I e c2 h2 ry;refine SeqAt.compareEq_reads ra rb c1 c2 (by have:=lZ d.depth e.depth;lia) ?_;exact⟨.bl _,H,I,rfl,by simpa using q⟩
def b2E(hu:X.A.units+464<dF):OpR X (cR .NotEq) (b9a X.K rp):=by
 intro pins s Y H x y v u Q I rx ry h;obtain⟨d,e,h1,h2,c1,c2,hd,q⟩:=h;obtain⟨as,ra⟩:=Den.reads I d c1 h1 rx;obtain⟨bs,rb⟩:=Den.reads I e c2 h2 ry;refine a7O ra rb c1 c2 (by have:=lZ d.depth e.depth;lia) _ _ _ _ ?_;exact⟨.bl _,H,I,rfl,by simpa using q⟩
def b2F(ho:OpR X f (b9a X.K neg)):OpS X f (b2B neg):=by
 refine⟨_,ho,λx y H a b d Q ha hb hg q=>?_⟩;unfold b2B at hg;by_cases c:(a.canLay0&&b.canLay0&&decide (a.depth<=450))=rp
 ·rw[aE c]at hg;cases hg
  rw[aL,aL]at c;exact⟨a,b,ha,hb,c.1.1,c.1.2,bG c.2,q _ (by simp only[imm]) λ_=>den_bool⟩
 ·rw[aM c]at hg;cases hg
def os_eq(hu:X.A.units+464<dF):OpS X (cR .Eq) dEq:=b2F (b2D hu)
def c1q(hu:X.A.units+464<dF):OpS X (cR .NotEq) dNe:=b2F (b2E hu)
def b2G(h:Den K H x a):decide (x=V.non)=isN a:=by
 cases a with
 |none=>rw[h.none_inv];rfl
 |bool b=>rw[h.bool_inv];rfl
 |int b=>rw[h.int_inv];rfl
 |str b=>rw[h.str_inv];rfl
 |list ds=>obtain⟨a,xs,rfl,_⟩:=h.list_inv;rfl
 |tuple ds=>obtain⟨a,xs,rfl,_⟩:=h.tup_inv;rfl
 |dict kvs=>
  obtain⟨a,es,rfl,_⟩:=h.dict_inv;rfl
def b5V:OpS X (cR .IsNot) (a7P rp):=by
 refine⟨_,b5D,λx y H a b d Q ha hb hg q=>?_⟩;unfold a7P at hg;by_cases c:isN b=rp
 ·rw[aE c]at hg;cases hg
  have e:=b2G hb;rw[c]at e;refine⟨bG e,?_⟩;rw[b2G ha];have:=q (.bl (rp !=isN a)) (by simp only[imm]) λ_=>den_bool
  simpa using this
 ·rw[aM c]at hg;cases hg
end
inductive Md where
 |dead|own (u:Ty)|exc|keys (kt:Bool)|pin (v:V)|fn (Φ:Hp->V->Prop)
def ExcAt(a C:aC):HO:=.ext λh=>∃o,h.get? a=cz o/\o.cls=.ref C
def SlotR(K:ag)(H:Hp)(F:List aC)(m:Md)(o:Option V)(d:D)(f:List aC):Prop:=
 match m with
 |.dead=>f=[]
 |.own u=>∃v,o=cz v/\Own K H F u v d f
 |.exc=>f=[]/\∃v,o=cz v/\((v=.non/\d=.none)\/∃a C n,v=.ref a/\d=.str n/\cut H F a=cz (ExcAt a C)/\gS K bU n=cz (cz (.ref C)))
 |.keys kt=>f=[]/\∃a es kvs,o=cz (.ref a)/\d=.dict kvs/\cut H F a=cz (f9 a es)/\es.map (·.1)=kvs.map (·.1)/\∀e∈es,keyOk kt e.1/\Den K (cut H F) e.2.1 e.1
 |.pin v=>f=[]/\o=cz v
 |.fn Φ=>f=[]/\∃v,o=cz v/\∀H',Same (cut H F) H'->Φ H' v
def StAll(K:ag)(H:Hp)(F:List aC):List Md->List D->L2.St->List aC->Prop
 |[],U,Y,fp=>U=[]/\Y=[]/\fp=[]
 |m::M,U,Y,fp=>∃d U' o Y' f g,U=d::U'/\Y=o::Y'/\fp=f++g/\SlotR K H F m o d f/\StAll K H F M U' Y' g
section
variable {K:ag}{H H':Hp}{F F':List aC}
theorem SlotR.frame(h:SlotR K H F m o d f)(e:Same (cut H F) (cut H' F'))(k:∀a∈f,H' a=H a):SlotR K H' F' m o d f:=by
 cases m with
 |dead=>exact h
 |own u=>
  obtain⟨v,rfl,h⟩:=h;exact⟨v,rfl,h.frame e u k⟩
 |exc=>
  obtain⟨h0,v,h1,h2⟩:=h;refine⟨h0,v,h1,h2.imp (λz=>z) λ⟨a,C,n,z1,z2,z3,z4⟩=>⟨a,C,n,z1,z2,e _ _ z3,z4⟩⟩
 |keys kt=>
  obtain⟨h0,a,es,kvs,h1,h2,h3,h4,h5⟩:=h;exact⟨h0,a,es,kvs,h1,h2,e _ _ h3,h4,λx hx=>⟨(h5 x hx).1,(h5 x hx).2.up e⟩⟩
 |pin v=>exact h
 |fn Φ=>obtain⟨h0,v,h1,h2⟩:=h;exact⟨h0,v,h1,λH2 e2=>h2 H2 (e.trans e2)⟩
def k7(h:SlotR K H F m o d f)(q:StAll K H F M U Y g):StAll K H F (m::M) (d::U) (o::Y) (f++g):=by
 simp only[StAll];exact⟨d,U,o,Y,f,g,rfl,rfl,rfl,h,q⟩
def O3:StAll K H F [] [] [] []:=by simp only[StAll];exact⟨trivial,trivial,trivial⟩
theorem StAll.frame:∀{M:List Md} {U:List D} {Y:L2.St} {fp:List aC},StAll K H F M U Y fp->Same (cut H F) (cut H' F')->(∀a∈fp,H' a=H a)->StAll K H' F' M U Y fp
 |[],_,_,_,h,_,_=>by simpa only [StAll]using h
 |m::M,_,_,_,h,e,k=>by
  simp only[StAll]at h;obtain⟨d,U,o,Y,f,g,rfl,rfl,rfl,h1,h2⟩:=h;exact k7 (h1.frame e λa ha=>k a (ak _ ha)) (StAll.frame h2 e λa ha=>k a (aj _ ha))
theorem StAll.len:∀{M:List Md} {U:List D} {Y:L2.St} {fp:List aC},StAll K H F M U Y fp->U.length=M.length/\Y.length=M.length
 |[],_,_,_,h=>by simp only[StAll]at h;obtain⟨rfl,rfl,_⟩:=h;exact⟨rfl,rfl⟩
 |m::M,_,_,_,h=>by
  simp only[StAll]at h;obtain⟨d,U,o,Y,f,g,rfl,rfl,rfl,_,h2⟩:=h;obtain⟨a,b⟩:=StAll.len h2;exact⟨by rw[aS,aS,a],by rw[aS,aS,b]⟩
theorem StAll.at_:∀{M:List Md} {U:List D} {Y:L2.St} {fp:List aC} {i:Nat} {m:Md},StAll K H F M U Y fp->M[i]?=cz m->
  ∃d o f pre post,U[i]?=cz d/\Y[i]?=cz o/\SlotR K H F m o d f/\fp=pre++(f++post)/\
   ∀(H':Hp) (F':List aC) (m':Md) (d':D) (o':Option V) (f':List aC),(∀a∈pre++post,H' a=H a)->Same (cut H F) (cut H' F')->SlotR K H' F' m' o' d' f'->
    StAll K H' F' (M.set i m') (U.set i d') (Y.set i o') (pre++(f'++post))
 |[],_,_,_,i,m,_,e=>by simp at e
 |m0::M,_,_,_,0,m,h,e=>by
  simp only[StAll]at h;obtain⟨d,U,o,Y,f,g,rfl,rfl,rfl,h1,h2⟩:=h;have:m0=m:=by simpa using e
  subst this;refine⟨d,o,f,[],g,rfl,rfl,h1,rfl,λH' F' m' d' o' f' k e' s=>?_⟩;show StAll K H' F' (m'::M) (d'::U) (o'::Y) (f'++g);exact k7 s (h2.frame e' k)
 |m0::M,_,_,_,i+1,m,h,e=>by
  simp only[StAll]at h;obtain⟨d,U,o,Y,f,g,rfl,rfl,rfl,h1,h2⟩:=h;obtain⟨d1,o1,f1,pre,post,e1,e2,e3,e4,e5⟩:=StAll.at_ (i:=i) h2 (by simpa using e);subst e4;refine⟨d1,o1,f1,f++pre,post,by simpa using e1,by simpa using e2,e3,by rw[aH],λH' F' m' d' o' f' k e' s=>?_⟩;rw[aH];refine k7 (h1.frame e' λa ha=>k a ?_) (e5 H' F' m' d' o' f' (λa ha=>k a ?_) e' s)
  ·rw[aH];exact ak _ ha
  ·rw[aH];exact aj _ ha
end
structure StE (K:ag) (M:List Md) (U:List D) (Y:L2.St) (H P:Hp) (F:List aC):Prop where
 all:∃G,StAll K H F M U Y G/\∀a∈G,a∈F
 lst:∀a∈F,∃ys:MuO,H a=cz ys.1
 prot:Same P (cut H F)
structure StR (K:ag) (M:List Md) (U:List D) (Y:L2.St) (H P:Hp) (F:List aC):Prop where
 all:∃G,StAll K H F M U Y G/\G.Nodup/\∀a∈G,a∈F
 lst:∀a∈F,∃ys:MuO,H a=cz ys.1
 prot:Same P (cut H F)
section
variable {K:ag}{M:List Md}{U:List D}{Y:L2.St}{H H' P:Hp}{F:List aC}
def StR.toE(h:StR K M U Y H P F):StE K M U Y H P F:=⟨let⟨G,a,_,b⟩:=h.all;⟨G,a,b⟩,h.lst,h.prot⟩
def StE.keep(h:StE K M U Y H P F)(e:Same H H'):∀a∈F,H' a=H a:=λa ha=>by
 obtain⟨ys,q⟩:=h.lst a ha;rw[q,e _ _ q]
def StE.lst'(h:StE K M U Y H P F)(e:Same H H'):∀a∈F,∃ys:MuO,H' a=cz ys.1:=λa ha=>by
 obtain⟨ys,q⟩:=h.lst a ha;exact⟨ys,e _ _ q⟩
def a0D(e:Same H H')(hf:∀a∈fp,H a=p4):Same (cut H F) (cut H' (fp++F)):=K2 e λa o ha lF=>by
 rcases ay.mp lF with z|z
 ·rw[hf a z]at ha;cases ha
 ·exact z
def StE.more(h:StE K M U Y H P F)(e:Same H H')(hf:∀a∈fp,H a=p4)(hl:∀a∈fp,∃ys:MuO,H' a=cz ys.1):StE K M U Y H' P (fp++F):=by
 obtain⟨G,h1,h3⟩:=h.all;have hc:Same (cut H F) (cut H' (fp++F)):=a0D e hf;refine⟨⟨G,h1.frame hc λa ha=>h.keep e a (h3 a ha),λa ha=>aj _ (h3 a ha)⟩,λa ha=>?_,h.prot.trans hc⟩;rcases ay.mp ha with z|z
 ·exact hl a z
 ·exact h.lst' e a z
def StE.grow(h:StE K M U Y H P F)(e:Same H H'):StE K M U Y H' P F:=h.more (fp:=[]) e (λa ha=>(nomatch ha)) λa ha=>(nomatch ha)
theorem StR.more(h:StR K M U Y H P F)(e:Same H H')(hf:∀a∈fp,H a=p4)(hl:∀a∈fp,∃ys:MuO,H' a=cz ys.1):StR K M U Y H' P (fp++F):=by
 obtain⟨G,h1,h2,h3⟩:=h.all;have S:=h.toE.more e hf hl;exact⟨⟨G,h1.frame (a0D e hf) λa ha=>h.toE.keep e a (h3 a ha),h2,λa ha=>aj _ (h3 a ha)⟩,S.lst,S.prot⟩
def StR.grow(h:StR K M U Y H P F)(e:Same H H'):StR K M U Y H' P F:=h.more (fp:=[]) e (λa ha=>(nomatch ha)) λa ha=>(nomatch ha)
def C8(h:U[i]?=cz d):U.getD i x=d:=by rw[ah,h];rfl
def StE.get(h:StE K M U Y H P F)(hm:M[i]?=cz (.own u)):∃v f,Y[i]?=cz (cz v)/\Own K H F u v (U.getD i .none) f/\∀a∈f,a∈F:=by
 obtain⟨G,h1,h3⟩:=h.all;obtain⟨d,o,f,pre,post,e1,e2,⟨v,rfl,q⟩,e4,_⟩:=h1.at_ hm;refine⟨v,f,e2,by rw[C8 e1];exact q,λa ha=>h3 a ?_⟩;rw[e4];exact aj _ (ak _ ha)
theorem StAll.pick(h:StAll K H F M U Y G)(hG:∀a∈G,a∈F):∀js:List Nat,∃G',StAll K H F (js.map λj=>M.getD j .dead) (js.map λj=>U.getD j .none) (js.map λj=>(Y[j]?).getD p4) G'/\∀a∈G',a∈F
 |[]=>⟨[],O3,λa ha=>(nomatch ha)⟩
 |j::js=>by
  obtain⟨G',q,hq⟩:=StAll.pick h hG js;cases e:M[j]? with
  |none=>
   refine⟨[]++G',?_,λa ha=>hq a (by simpa using ha)⟩;have:M.getD j .dead=.dead:=by rw[ah,e];rfl
   rw[aB,aB,aB,this];exact k7 rfl q
  |some m=>
   obtain⟨d,o,f,pre,post,e1,e2,e3,e4,_⟩:=h.at_ e;refine⟨f++G',?_,λa ha=>?_⟩
   ·rw[aB,aB,aB,show M.getD j .dead=m by rw[ah,e];rfl,C8 e1,e2];exact k7 e3 q
   ·rcases ay.mp ha with z|z
    ·exact hG a (by rw[e4];exact aj _ (ak _ z))
    ·exact hq a z
def O4{pre f post:List aC}(h:(pre++(f++post)).Nodup):(pre++post).Nodup:=
 h.sublist (yI (iF _) (se _ _))
def mem_mid{pre f post:List aC}{a:aC}(h:a∈pre++post):a∈pre++(f++post):=by
 rcases ay.mp h with h|h
 ·exact ak _ h
 ·exact aj _ (aj _ h)
def a1i{pre f post:List aC}(h:(pre++post).Nodup)(hf:f.Nodup)(d:∀a∈f,a∉pre++post):(pre++(f++post)).Nodup:=by
 rw[bV]at h ⊢;obtain⟨h1,h2,h3⟩:=h;refine⟨h1,?_,λa ha b hb=>?_⟩
 ·rw[bV];exact⟨hf,h2,λa ha b hb e=>d a ha (e▸aj _ hb)⟩
 ·rcases ay.mp hb with z|z
  ·intro e;exact d b z (e▸ak _ ha)
  ·exact h3 a ha b z
def a5n{pre f post:List aC}{a:aC}(h:a∈pre++(f++post)):a∈f\/a∈pre++post:=by
 rcases ay.mp h with h|h
 ·exact .inr (ak _ h)
 ·rcases ay.mp h with h|h
  ·exact .inl h
  ·exact .inr (aj _ h)
def a1j{pre f post:List aC}(h:(pre++(f++post)).Nodup):∀a∈f,a∉pre++post:=λa ha z=>by
 rw[bV,bV]at h;rcases ay.mp z with z|z
 ·exact h.2.2 a z a (ak _ ha) rfl
 ·exact h.2.1.2.2 a ha a z rfl
theorem StR.set{H1:Hp}{i:Nat}{m:Md}{u:Ty}{v:V}{d:D}{fp:List aC}(h:StR K M U Y H P F)(hm:M[i]?=cz m)(e:Same H H1)(hv:Own K H1 (fp++F) u v d fp)(hn:fp.Nodup)(hf:∀a∈fp,H a=p4) :
  StR K (M.set i (.own u)) (U.set i d) (Y.set i (cz v)) H1 P (fp++F):=by
 obtain⟨G,h1,h2,h3⟩:=h.all;have S:=h.more e hf (hv.lst u);obtain⟨d0,o,f,pre,post,e1,e2,e3,e4,e5⟩:=h1.at_ hm;have qA:=h2;rw[e4]at qA;have hG:∀a∈pre++post,a∈F:=λa ha=>h3 a (by rw[e4];exact mem_mid ha)
 have hc:Same (cut H F) (cut H1 (fp++F)):=K2 e λa o ha lF=>by
  rcases ay.mp lF with z|z
  ·rw[hf a z]at ha;cases ha
  ·exact z
 refine⟨⟨pre++(fp++post),e5 H1 _ (.own u) d (cz v) fp (λa ha=>h.toE.keep e a (hG a ha)) hc ⟨v,rfl,hv⟩,a1i (O4 qA) hn λa ha z=>?_,λa ha=>?_⟩,S.lst,S.prot⟩
 ·obtain⟨ys,q⟩:=h.lst a (hG a z);rw[hf a ha]at q;cases q
 ·rcases a5n ha with z|z
  ·exact ak _ z
  ·exact aj _ (hG a z)
def StR.kill{i:Nat}{m:Md}(h:StR K M U Y H P F)(hm:M[i]?=cz m)(d:D)(o:Option V):StR K (M.set i .dead) (U.set i d) (Y.set i o) H P F:=by
 obtain⟨G,h1,h2,h3⟩:=h.all;obtain⟨d0,o0,f,pre,post,e1,e2,e3,e4,e5⟩:=h1.at_ hm;rw[e4]at h2;exact⟨⟨pre++([]++post),e5 H F .dead d o [] (λ_ _=>rfl) (Same.refl _) rfl,O4 h2,λa ha=>h3 a (by rw[e4];exact mem_mid ha)⟩,h.lst,h.prot⟩
def set_same{α:Type}{l:List α}{i:Nat}{x:α}(h:l[i]?=cz x):l.set i x=l:=iE λj=>by
 rw[List.getElem?_set]
 split
 ·next hj=>
  subst hj
  split
  ·exact h.symm
  ·next hh=>exact (gA (by lia)).symm
 ·rfl
theorem StR.dead{i:Nat}{m:Md}(h:StR K M U Y H P F)(hm:M[i]?=cz m):StR K (M.set i .dead) U Y H P F:=by
 obtain⟨G,h1,_⟩:=h.all;obtain⟨d0,o0,f,pre,post,e1,e2,_⟩:=h1.at_ hm;have:=h.kill hm d0 o0
 rwa[set_same e1,set_same e2]at this
def Own.freeze(h:Own K H F u v d fp)(hs:∀a∈F',a∈F)(hd:∀a∈fp,a∉F'):Own K H F' .f v d []:=by
 have key:∀(u:Ty) {v:V} {d:D} {fp:List aC},Own K H F u v d fp->(∀a∈fp,a∉F')->Den K (cut H F') v d:=by
  intro u;refine Ty.rec (motive_1:=λu=>∀{v:V} {d:D} {fp:List aC},Own K H F u v d fp->(∀a∈fp,a∉F')->Den K (cut H F') v d)
   (motive_2:=λus=>∀{xs:List V} {ds:List D} {fp:List aC},OwnTs K H F us xs ds fp->(∀a∈fp,a∉F')->DenAll K (cut H F') xs ds) ?_ ?_ ?_ ?_ ?_ ?_ ?_ u
  ·intro v d fp h _;simp only[Own]at h;exact h.2.2.up (C7 hs)
  ·intro v d fp h _;simp only[Own]at h;exact h.2.up (C7 hs)
  ·intro u ih v d fp h hd;simp only[Own]at h;rcases h with⟨_,_,h⟩|⟨a,xs,ds,fs,rfl,h1,rfl,rfl,h2⟩
   ·exact h.up (C7 hs)
   ·refine den_list (.inl (.inl (i7 (hd a aK) h1))) (ListAll.den (R:=λv d f=>Own K H F u v d f/\∀a∈f,a∉F') (λv d f q=>ih q.1 q.2) (h2.imp λv d f hf _ q=>⟨q,λb hb=>hd b (ar _ (hf b hb))⟩))
  ·intro us ih v d fp h hd;simp only[Own]at h;rcases h with⟨_,_,h⟩|⟨a,xs,ds,rfl,h1,h0,rfl,h2⟩
   ·exact h.up (C7 hs)
   exact den_tup (SqT.of (i7 (λz=>h0 (hs a z)) h1)) (ih h2 hd)
  ·intro kt u ih v d fp h hd;simp only[Own]at h;obtain⟨a,es,ds,fs,rfl,h1,rfl,rfl,h3,h2⟩:=h;exact a4u (i7 (hd a aK) h1) (λe he=>(h3.2 e he).2.up (C7 hs)) (ListAll.den (R:=λv d f=>Own K H F u v d f/\∀a∈f,a∉F') (λv d f q=>ih q.1 q.2) (h2.imp λv d f hf _ q=>⟨q,λb hb=>hd b (ar _ (hf b hb))⟩))
  ·intro xs ds fp h _;simp only[OwnTs]at h;obtain⟨rfl,rfl,_⟩:=h;exact denAll_nil
  ·intro u us zg zf xs ds fp h hd;simp only[OwnTs]at h;obtain⟨v,r,d,e,f,g,rfl,rfl,rfl,h1,h2⟩:=h;exact denAll_cons (zg h1 λa ha=>hd a (ak _ ha)) (zf h2 λa ha=>hd a (aj _ ha))
 simp only[Own];exact⟨trivial,key u h hd⟩
theorem StR.freeze{i:Nat}{u:Ty}(h:StR K M U Y H P F)(hm:M[i]?=cz (.own u)):∃F',StR K (M.set i (.own .f)) U Y H P F':=by
 obtain⟨G,h1,h2,h3⟩:=h.all;obtain⟨d,o,f,pre,post,e1,e2,⟨v,rfl,e3⟩,e4,e5⟩:=h1.at_ hm;rw[e4]at h2;have mG:∀a∈F.filter (λa=>decide (a∉f)),a∈F:=λa ha=>(jB.mp ha).1
 have zD:∀a∈f,a∉F.filter (λa=>decide (a∉f)):=λa ha z=>absurd ha (bG (jB.mp z).2)
 have hc:Same (cut H F) (cut H (F.filter (λa=>decide (a∉f)))):=C7 mG;have q:=e5 H _ (.own .f) d (cz v) [] (λ_ _=>rfl) hc ⟨v,rfl,e3.freeze mG zD⟩;rw[set_same e1,set_same e2]at q;refine⟨_,⟨_,q,O4 h2,λa ha=>jB.mpr ⟨h3 a (by rw[e4];exact mem_mid ha),aV λz=>a1j h2 a z ha⟩⟩,λa ha=>h.lst a (mG a ha),h.prot.trans hc⟩
end
inductive Cat where
 |new (u:Ty)|bor (u:Ty)|tmp
def ResR(K:ag)(c:Cat)(H H':Hp)(F:List aC)(v:V)(d:D):Prop:=
 match c with
 |.new u=>∃fp,Own K H' (fp++F) u v d fp/\fp.Nodup/\∀a∈fp,H a=p4
 |.bor u=>∃fp,Own K H' F u v d fp/\∀a∈fp,a∈F
 |.tmp=>Den K H' v d
section
variable {K:ag}{c:Cat}{H H0 H' H1 H2:Hp}{F:List aC}{v:V}{d:D}
theorem ResR.den(r:ResR K c H H' F v d):Den K H' v d:=by
 cases c with
 |new u=>obtain⟨fp,h,_⟩:=r;exact h.den u
 |bor u=>obtain⟨fp,h,_⟩:=r;exact h.den u
 |tmp=>exact r
def Own.grow(h:Own K H1 F u v d fp)(e:Same H1 H2):Own K H2 F u v d fp:=
 h.frame (K3 e) u λa ha=>by obtain⟨ys,q⟩:=h.lst u a ha;rw[q,e _ _ q]
theorem ResR.up(r:ResR K c H H1 F v d)(e:Same H1 H2):ResR K c H H2 F v d:=by
 cases c with
 |new u=>obtain⟨fp,h,q⟩:=r;exact⟨fp,h.grow e,q⟩
 |bor u=>obtain⟨fp,h,q⟩:=r;exact⟨fp,h.grow e,q⟩
 |tmp=>exact Den.up r e
def ResR.early(r:ResR K c H H1 F v d)(e:Same H0 H):ResR K c H0 H1 F v d:=by
 cases c with
 |new u=>obtain⟨fp,h,n,q⟩:=r;exact⟨fp,h,n,λa ha=>e.free (q a ha)⟩
 |bor u=>exact r
 |tmp=>exact r
def K5(hi:imm d=rp)(hd:Den K H' v d)(hF:∀a∈F,∃ys:MuO,H' a=cz ys.1):ResR K (.new .i) H H' F v d:=by
 refine⟨[],?_,bE,λa ha=>(nomatch ha)⟩;simp only[Own,bT];exact⟨trivial,hi,hd.imm_out hF d hi⟩
def a2N(h:Own K H F .i v d fp):fp=[]/\imm d=rp/\Den K (cut H F) v d:=by simpa only [Own]using h
def b2H(h:Own K H F .f v d fp):fp=[]/\Den K (cut H F) v d:=by simpa only [Own]using h
end
abbrev EvE:=List D->Option D
abbrev EvT:=List D->Option Bool
def spE(K:ag)(M:List Md)(f:EvE)(c:Cat):TE:=λY H Q=>∃(U:List D) (P:Hp) (F:List aC) (d:D),StE K M U Y H P F/\f U=cz d/\∀v H',Same H H'->ResR K c H H' F v d->Q v H'
def PX(X:Cx)(M:List Md)(e:Expr)(f:EvE)(c:Cat):Prop:=PE X e (spE X.K M f c)
def PX.out{X:Cx}{M:List Md}{e:Expr}{f:EvE}{c:Cat}(h:PX X M e f c) :
  ∃t,PE X e t/\∀(U:List D) (Y:L2.St) (H P:Hp) (F:List aC) (d:D) (Q:VK),StE X.K M U Y H P F->f U=cz d->(∀v H',Same H H'->ResR X.K c H H' F v d->Q v H')->t Y H Q:=
 ⟨_,h,λU _ _ P F d _ S hf q=>⟨U,P,F,d,S,hf,q⟩⟩
def PX.mk{X:Cx}{M:List Md}{e:Expr}{f:EvE}{c:Cat}
  (h:∃t,PE X e t/\∀(U:List D) (Y:L2.St) (H P:Hp) (F:List aC) (d:D) (Q:VK),StE X.K M U Y H P F->f U=cz d->(∀v H',Same H H'->ResR X.K c H H' F v d->Q v H')->t Y H Q):PX X M e f c:=by
 obtain⟨t,p,q⟩:=h;exact λpins s Y H Q I ⟨U,P,F,d,S,hf,z⟩=>p pins s Y H Q I (q U Y H P F d Q S hf z)
def spT(K:ag)(M:List Md)(g:EvT):TT:=λY H Q=>∃(U:List D) (P:Hp) (F:List aC) (b:Bool),StE K M U Y H P F/\g U=cz b/\∀H',Same H H'->Q b H'
def PTX(X:Cx)(M:List Md)(e:Expr)(g:EvT):Prop:=PT X e (spT X.K M g)
def PTX.out{X:Cx}{M:List Md}{e:Expr}{g:EvT}(h:PTX X M e g) :
  ∃t,PT X e t/\∀(U:List D) (Y:L2.St) (H P:Hp) (F:List aC) (b:Bool) (Q:Bool->Hp->Prop),StE X.K M U Y H P F->g U=cz b->(∀H',Same H H'->Q b H')->t Y H Q:=
 ⟨_,h,λU _ _ P F b _ S hf q=>⟨U,P,F,b,S,hf,q⟩⟩
def PTX.mk{X:Cx}{M:List Md}{e:Expr}{g:EvT}
  (h:∃t,PT X e t/\∀(U:List D) (Y:L2.St) (H P:Hp) (F:List aC) (b:Bool) (Q:Bool->Hp->Prop),StE X.K M U Y H P F->g U=cz b->(∀H',Same H H'->Q b H')->t Y H Q):PTX X M e g:=by
 obtain⟨t,p,q⟩:=h;exact λpins s Y H Q I ⟨U,P,F,d,S,hf,z⟩=>p pins s Y H Q I (q U Y H P F d Q S hf z)
def PWX(X:Cx)(M:List Md)(e:Expr)(g:EvT):Prop:=PW X e (spT X.K M g)
def PWX.out{X:Cx}{M:List Md}{e:Expr}{g:EvT}(h:PWX X M e g) :
  ∃t,PW X e t/\∀(U:List D) (Y:L2.St) (H P:Hp) (F:List aC) (b:Bool) (Q:Bool->Hp->Prop),StE X.K M U Y H P F->g U=cz b->(∀H',Same H H'->Q b H')->t Y H Q:=
 ⟨_,h,λU _ _ P F b _ S hf q=>⟨U,P,F,b,S,hf,q⟩⟩
def PWX.mk{X:Cx}{M:List Md}{e:Expr}{g:EvT}
  (h:∃t,PW X e t/\∀(U:List D) (Y:L2.St) (H P:Hp) (F:List aC) (b:Bool) (Q:Bool->Hp->Prop),StE X.K M U Y H P F->g U=cz b->(∀H',Same H H'->Q b H')->t Y H Q):PWX X M e g:=by
 obtain⟨t,p,q⟩:=h;exact λwhole pins s Y H Q I ⟨U,P,F,d,S,hf,z⟩=>p whole pins s Y H Q I (q U Y H P F d Q S hf z)
abbrev EvA:=List D->Option (List D)
def PAX(X:Cx)(M:List Md)(es:List Expr)(f:EvA):Prop:=
 ∃t,PA X es t/\∀(U:List D) (Y:L2.St) (H P:Hp) (F:List aC) (ds:List D) (Q:List V->Hp->Prop),StE X.K M U Y H P F->f U=cz ds->(∀vs H',Same H H'->DenAll X.K H' vs ds->Q vs H')->t Y H Q
def PAN(X:Cx)(M:List Md)(es:List Expr)(f:EvA)(us:List Ty):Prop:=
 ∃t,PA X es t/\∀(U:List D) (Y:L2.St) (H P:Hp) (F:List aC) (ds:List D) (Q:List V->Hp->Prop),StE X.K M U Y H P F->f U=cz ds->
  (∀vs H' fp,Same H H'->OwnTs X.K H' (fp++F) us vs ds fp->fp.Nodup->(∀a∈fp,H a=p4)->Q vs H')->t Y H Q
noncomputable def a4(i:Nat):EvE:=λU=>cz (U.getD i .none)
noncomputable def eC(d:D):EvE:=λ_=>cz d
def e1(g:D->Option D)(a:EvE):EvE:=λU=>(a U).bind g
def e2(g:D->D->Option D)(a b:EvE):EvE:=λU=>(a U).bind λx=>(b U).bind λy=>g x y
def asB:D->Option Bool
 |.bool b=>cz b
 |_=>p4
def b5W(a b:EvE):EvE:=λU=>(a U).bind λx=>(asB x).bind λk=>if k then b U else cz (.bool xn)
def eOr(a b:EvE):EvE:=λU=>(a U).bind λx=>(asB x).bind λk=>if k then cz (.bool rp) else b U
def b5X(a:EvE):EvE:=λU=>(a U).bind λx=>(asB x).bind λk=>cz (.bool !k)
def eIf(c:EvT)(a b:EvE):EvE:=λU=>(c U).bind λk=>if k then a U else b U
def eCh(g g':D->D->Option D)(a b c:EvE):EvE:=λU=>(a U).bind λx=>(b U).bind λy=>(g x y).bind λz=>(asB z).bind λk=>if k then (c U).bind λw=>g' y w else cz (.bool xn)
def tr:D->Option Bool
 |.none=>cz xn
 |.bool b=>cz b
 |.int i=>cz (i !=0)
 |.str x=>if x.length<=br then cz ((x.length:Int)!=0) else p4
 |.list ds=>cz !ds.isEmpty
 |.tuple ds=>cz !ds.isEmpty
 |.dict _=>p4
def tV(a:EvE):EvT:=λU=>(a U).bind tr
def tB(a:EvE):EvT:=λU=>(a U).bind asB
def tNo(a:EvT):EvT:=λU=>(a U).bind λk=>cz !k
def tAn(a b:EvT):EvT:=λU=>(a U).bind λk=>if k then b U else cz xn
def b0K(a b:EvT):EvT:=λU=>(a U).bind λk=>if k then cz rp else b U
def b8:List D->Option (List D):=λ_=>cz []
def a6(a:EvE)(r:List D->Option (List D)):List D->Option (List D):=λU=>(a U).bind λx=>(r U).bind λxs=>cz (x::xs)
def O5(h:asB d=cz k):d=.bool k:=by
 cases d with
 |bool b=>cases h;rfl
 |_=>cases h
def bnd{α β:Type}{o:Option α}{f:α->Option β}{b:β}(h:o.bind f=cz b):∃a,o=cz a/\f a=cz b:=Option.bind_eq_some_iff.mp h
section
variable {X:Cx}{M:List Md}{a b e e':Expr}{es rest:List Expr}{f g fa fb fc:EvE}{ga gb:EvT}{c ca cb cc:Cat}{u:Ty}{us:List Ty}{pos:fV}
def PX.imp(h:PX X M e f c)(k:∀(K:ag) (H H':Hp) (F:List aC) (v:V) (d:D),(∀a∈F,∃ys:MuO,H a=cz ys.1)->Same H H'->ResR K c H H' F v d->ResR K c' H H' F v d):PX X M e f c':=by
 obtain⟨t,p,q⟩:=h.out;exact .mk ⟨t,p,λU Y H P F d Q S hf z=>q U Y H P F d Q S hf λv H' e r=>z v H' e (k _ _ _ _ _ _ S.lst e r)⟩
def PX.newf(h:PX X M e f (.bor .f)):PX X M e f (.new .f):=h.imp λK H H' F v d _ _ ⟨fp,o,_⟩=>by
 obtain⟨rfl,_⟩:=b2H o;exact⟨[],o,bE,λa ha=>(nomatch ha)⟩
def PX.newi(h:PX X M e f (.bor .i)):PX X M e f (.new .i):=h.imp λK H H' F v d _ _ ⟨fp,o,_⟩=>by
 obtain⟨rfl,_⟩:=a2N o;exact⟨[],o,bE,λa ha=>(nomatch ha)⟩
def PX.itol(h:PX X M e f (.new .i)):PX X M e f (.new (.l u)):=h.imp λK H H' F v d _ _ ⟨fp,o,n,z⟩=>by
 obtain⟨rfl,w,q⟩:=a2N o;refine⟨[],?_,n,z⟩;simp only[Own];exact .inl ⟨trivial,w,q⟩
def PX.frz(h:PX X M e f (.new u)):PX X M e f (.new .f):=h.imp λK H H' F v d hF _ ⟨fp,o,n,z⟩=>by
 refine⟨[],o.freeze (λa ha=>aj _ (by simpa using ha)) (λa ha vH=>?_),bE,λa ha=>(nomatch ha)⟩;obtain⟨ys,q⟩:=hF a (by simpa using vH);rw[z a ha]at q;cases q
def q8(i:Nat)(hN:X.N[i]?=cz x:=by rfl)(hv:autoParam (NmV X x) ZY._auto_1)(hm:M[i]?=cz (.own u):=by rfl):PX X M (.Name x pos) (a4 i) (.bor u):=by
 refine .mk ⟨_,C6 hN hv.1 hv.2.1 hv.2.2,λU Y H P F d Q S hf q=>?_⟩;cases hf
 obtain⟨v,fp,e,o,sub⟩:=S.get hm;exact⟨v,e,q v H (Same.refl _) ⟨fp,o,sub⟩⟩
def a0E(h:PE X e (tC v))(hi:imm d=rp)(hd:∀H,Den X.K H v d):PX X M e (eC d) (.new .i):=by
 refine .mk ⟨_,h,λU Y H P F d' Q S hf q=>?_⟩;cases hf
 exact q v H (Same.refl _) (K5 hi (hd H) S.lst)
def b7{i j}:PX X M (.Constant (.int i) j pos) (eC (.int i)) (.new .i):=a0E a7C (by simp only[imm]) λ_=>den_int
def a2O{k j}:PX X M (.Constant (.bool k) j pos) (eC (.bool k)) (.new .i):=a0E c0T (by simp only[imm]) λ_=>den_bool
def b2I{j}:PX X M (.Constant .none j pos) (eC .none) (.new .i):=a0E b8r (by simp only[imm]) λ_=>den_none
def a9r(hm:∃t,X.mg x=cz (.int i t))(hg:Gl X x:=by rfl)(hd:(x==("__debug__":bM))=xn:=by decide):PX X M (.Name x pos) (eC (.int i)) (.new .i):=by
 obtain⟨t,hm⟩:=hm;exact a0E (a9l (v:=.int i) hg hm ⟨_,rfl⟩ hd) (by simp only[imm]) λ_=>den_int
def B8{g:D->D->Option D}{U:List D}{d:D}(h:e2 g fa fb U=cz d):∃x y,fa U=cz x/\fb U=cz y/\g x y=cz d:=by
 obtain⟨x,h1,h⟩:=bnd h;obtain⟨y,h2,h⟩:=bnd h;exact⟨x,y,h1,h2,h⟩
def i9{g:D->D->Option D}(ho:OpS X (gn op) g)(ha:PX X M a fa ca)(hb:PX X M b fb cb):PX X M (.BinOp a op b pos) (e2 g fa fb) (.new .i):=by
 obtain⟨r,hr,hs⟩:=ho;obtain⟨ta,pa,qa⟩:=ha.out;obtain⟨tb,pb,qb⟩:=hb.out;refine .mk ⟨_,b7U hr pa pb,λU Y H P F d Q S hf q=>?_⟩;obtain⟨x,y,h1,h2,h3⟩:=B8 hf;exact qa U Y H P F x _ S h1 λv H1 e1 r1=>qb U Y H1 P F y _ (S.grow e1) h2 λw H2 e2 r2=>hs v w H2 x y d Q (r1.den.up e2) r2.den h3 λz hi hd=>q z H2 (e1.trans e2) (K5 hi (hd H2) (S.lst' (e1.trans e2)))
def b9b{g:D->D->Option D}(ho:OpS X (cR op) g)(ha:PX X M a fa ca)(hb:PX X M b fb cb)(hm:ix op b=xn:=by first|exact a7G _|with_unfolding_all rfl):PX X M (.Compare a [op] [b] pos) (e2 g fa fb) (.new .i):=by
 obtain⟨r,hr,hs⟩:=ho;obtain⟨ta,pa,qa⟩:=ha.out;obtain⟨tb,pb,qb⟩:=hb.out;refine .mk ⟨_,b5E hr pa pb hm,λU Y H P F d Q S hf q=>?_⟩;obtain⟨x,y,h1,h2,h3⟩:=B8 hf;exact qa U Y H P F x _ S h1 λv H1 e1 r1=>qb U Y H1 P F y _ (S.grow e1) h2 λw H2 e2 r2=>hs v w H2 x y d Q (r1.den.up e2) r2.den h3 λz hi hd=>q z H2 (e1.trans e2) (K5 hi (hd H2) (S.lst' (e1.trans e2)))
def r9{op:CmpOp}{g:D->D->Option D}(ho:OpS X (cR op) g)(ha:PX X M a fa ca)(hb:PX X M b fb cb)(hm:ix op b=xn:=by first|exact a7G _|with_unfolding_all rfl):PTX X M (.Compare a [op] [b] pos) (tB (e2 g fa fb)):=by
 obtain⟨r,hr,hs⟩:=ho;obtain⟨ta,pa,qa⟩:=ha.out;obtain⟨tb,pb,qb⟩:=hb.out;refine .mk ⟨_,a9n hr pa pb hm,λU Y H P F k Q S hf q=>?_⟩;obtain⟨d,hf,hk⟩:=bnd hf;cases O5 hk
 obtain⟨x,y,h1,h2,h3⟩:=B8 hf;exact qa U Y H P F x _ S h1 λv H1 e1 r1=>qb U Y H1 P F y _ (S.grow e1) h2 λw H2 e2 r2=>hs v w H2 x y _ _ (r1.den.up e2) r2.den h3 λz hi hd=>⟨k,(hd H2).bool_inv,q H2 (e1.trans e2)⟩
def b0L{op u_:CmpOp}{g g':D->D->Option D}{c0:Expr}(ho:OpS X (cR op) g)(oO:OpS X (cR u_) g')(ha:PX X M a fa ca)(hb:PX X M b fb cb)(hc:PX X M c0 fc cc)(hm:lastMarks [op,u_] [b,c0]=xn:=by with_unfolding_all rfl) :
  PTX X M (.Compare a [op,u_] [b,c0] pos) (tB (eCh g g' fa fb fc)):=by
 obtain⟨r,hr,hs⟩:=ho;obtain⟨r',vn,ju⟩:=oO;obtain⟨ta,pa,qa⟩:=ha.out;obtain⟨tb,pb,qb⟩:=hb.out;obtain⟨tc,pc,qc⟩:=hc.out;refine .mk ⟨_,b2q hr vn pa pb pc hm,λU Y H P F k0 Q S hf q=>?_⟩;obtain⟨d,hf,hk⟩:=bnd hf;cases O5 hk
 obtain⟨x,h1,hf⟩:=bnd hf;obtain⟨y,h2,hf⟩:=bnd hf;obtain⟨z,h3,hf⟩:=bnd hf;obtain⟨k,h4,hf⟩:=bnd hf;cases O5 h4
 refine qa U Y H P F x _ S h1 λv H1 e1 r1=>qb U Y H1 P F y _ (S.grow e1) h2 λw H2 e2 r2=>hs v w H2 x y _ _ (r1.den.up e2) r2.den h3 λz hi hd=>⟨k,(hd H2).bool_inv,?_⟩
 cases k with
 |false=>
  have rm:k0=xn:=by injection (aF hf).symm
  subst rm;exact a6q ⟨xn,rfl,q H2 (e1.trans e2)⟩
 |true=>
  obtain⟨w',h5,hf⟩:=bnd (show (fc U).bind (λw=>g' y w)=cz (.bool k0) from hf);exact a6r (qc U Y H2 P F w' _ (S.grow (e1.trans e2)) h5 λw3 H3 e3 r3=>ju w w3 H3 y w' _ _ (r2.den.up e3) r3.den hf λz hi hd=>⟨k0,(hd H3).bool_inv,q H3 ((e1.trans e2).trans e3)⟩)
def b2J(h:PX X M a f c):PX X M (.BoolOp op [a] pos) f c:=by
 obtain⟨t,p,q⟩:=h.out;exact .mk ⟨t,b8v p,q⟩
def b9c(ha:PX X M a fa ca)(hb:PX X M (.BoolOp .And (b::rest) pos) fb (.new .i)):PX X M (.BoolOp .And (a::b::rest) pos) (b5W fa fb) (.new .i):=by
 obtain⟨ta,pa,qa⟩:=ha.out;obtain⟨tb,pb,qb⟩:=hb.out;refine .mk ⟨_,b8w pa pb,λU Y H P F d Q S hf q=>?_⟩;obtain⟨x,h1,hf⟩:=bnd hf;obtain⟨k,h2,hf⟩:=bnd hf;cases O5 h2
 refine qa U Y H P F _ _ S h1 λv H1 e1 r1=>⟨k,r1.den.bool_inv,?_⟩
 cases k with
 |false=>
  have rm:d=.bool xn:=(aF hf).symm;subst rm;exact a6q (q _ H1 e1 (K5 (by simp only[imm]) den_bool (S.lst' e1)))
 |true=>exact a6r (qb U Y H1 P F d Q (S.grow e1) hf λw H2 e2 r2=>q w H2 (e1.trans e2) (r2.early e1))
def b9d(ha:PX X M a fa ca):PX X M (.UnaryOp .Not a pos) (b5X fa) (.new .i):=by
 obtain⟨ta,pa,qa⟩:=ha.out;refine .mk ⟨_,b8x pa,λU Y H P F d Q S hf q=>?_⟩;obtain⟨x,h1,hf⟩:=bnd hf;obtain⟨k,h2,hf⟩:=bnd hf;cases O5 h2
 cases hf
 exact qa U Y H P F _ _ S h1 λv H1 e1 r1=>⟨k,r1.den.bool_inv,q _ H1 e1 (K5 (by simp only[imm]) den_bool (S.lst' e1))⟩
def a5o:PX X M (.UnaryOp .USub (.Constant (.int i) j p) pos) (eC (.int (-i))) (.new .i):=by
 refine .mk ⟨_,c1d b8P a7C,λU Y H P F d Q S hf q=>?_⟩;cases hf
 exact⟨i,rfl,q _ H (Same.refl _) (K5 (by simp only[imm]) den_int S.lst)⟩
def b2K(h:Den K H v d)(ht:tr d=cz k):b5F K v H k:=by
 cases d with
 |none=>cases h.none_inv;cases ht;exact rfl
 |bool b=>cases h.bool_inv;cases ht;exact rfl
 |int i=>cases h.int_inv;cases ht;exact rfl
 |str x=>
  cases h.str_inv
  replace ht:(if x.length<=br then cz ((x.length:Int)!=0) else p4)=cz k:=ht
  by_cases z:x.length<=br
  ·rw[aE z]at ht;cases ht
   exact⟨z,rfl⟩
  ·rw[aM z]at ht;cases ht
 |list ds=>
  obtain⟨a,xs,rfl,h1,h2⟩:=h.list_inv;cases ht
  refine .inl ⟨xs,h1.l,?_⟩;have:=h2.length;cases xs<;>cases ds<;>simp_all
 |tuple ds=>
  obtain⟨a,xs,rfl,h1,h2⟩:=h.tup_inv;cases ht
  refine .inr (.inl ⟨xs,h1,?_⟩);have:=h2.length;cases xs<;>cases ds<;>simp_all
 |dict kvs=>cases ht
def a9s(ha:PX X M a fa ca)(he:∀whole,CZ a X.env whole=(do let v <-whole;Cz a.pos;lW [v] (truthy v)):=by intro _;rfl):PTX X M a (tV fa):=by
 obtain⟨ta,pa,qa⟩:=ha.out;refine .mk ⟨_,b2s pa he,λU Y H P F k Q S hf q=>?_⟩;obtain⟨x,h1,hf⟩:=bnd hf;exact qa U Y H P F _ _ S h1 λv H1 e1 r1=>⟨k,b2K r1.den hf,q H1 e1⟩
def a9t(h:PTX X M a ga):PTX X M (.UnaryOp .Not a pos) (tNo ga):=by
 obtain⟨ta,pa,qa⟩:=h.out;refine .mk ⟨_,b8u pa,λU Y H P F k Q S hf q=>?_⟩;obtain⟨x,h1,hf⟩:=bnd hf;cases hf
 exact qa U Y H P F _ _ S h1 λH1 e1=>q H1 e1
theorem PWX.pt(h:PWX X M e ga):PTX X M e ga:=by
 obtain⟨t,p,q⟩:=h.out;exact .mk ⟨t,p.pt,q⟩
def b2L(h:PTX X M a ga):PWX X M (.BoolOp .And [a] pos) ga:=by
 obtain⟨t,p,q⟩:=h.out;exact .mk ⟨t,b5y p,q⟩
def a5p(h:PTX X M a ga):PWX X M (.BoolOp .Or [a] pos) ga:=by
 obtain⟨t,p,q⟩:=h.out;exact .mk ⟨t,b8s p,q⟩
def b5Y(ha:PTX X M a ga)(hb:PWX X M (.BoolOp .And (b::rest) pos) gb):PWX X M (.BoolOp .And (a::b::rest) pos) (tAn ga gb):=by
 obtain⟨ta,pa,qa⟩:=ha.out;obtain⟨tb,pb,qb⟩:=hb.out;refine .mk ⟨_,b8t pa pb,λU Y H P F k Q S hf q=>?_⟩;obtain⟨x,h1,hf⟩:=bnd hf;refine qa U Y H P F _ _ S h1 λH1 e1=>?_
 cases x with
 |false=>cases hf;exact a6q (q H1 e1)
 |true=>exact a6r (qb U Y H1 P F k Q (S.grow e1) hf λH2 e2=>q H2 (e1.trans e2))
def a7Q(ha:PTX X M a ga)(hb:PWX X M (.BoolOp .Or (b::rest) pos) gb):PWX X M (.BoolOp .Or (a::b::rest) pos) (b0K ga gb):=by
 obtain⟨ta,pa,qa⟩:=ha.out;obtain⟨tb,pb,qb⟩:=hb.out;refine .mk ⟨_,c0U pa pb,λU Y H P F k Q S hf q=>?_⟩;obtain⟨x,h1,hf⟩:=bnd hf;refine qa U Y H P F _ _ S h1 λH1 e1=>?_
 cases x with
 |true=>cases hf;exact a6r (q H1 e1)
 |false=>exact a6q (qb U Y H1 P F k Q (S.grow e1) hf λH2 e2=>q H2 (e1.trans e2))
def c8:PAX X M [] b8:=⟨_,n8,λU Y H P F ds Q S hf q=>by cases hf;exact q [] H (Same.refl _) denAll_nil⟩
def a7{fr:List D->Option (List D)}(ha:PX X M a fa ca)(hr:PAX X M es fr)(hs:au (a::es) X.env=(xn,cI a X.env)::au es X.env:=by rfl):PAX X M (a::es) (a6 fa fr):=by
 obtain⟨ta,pa,qa⟩:=ha.out;obtain⟨tr,pr,qr⟩:=hr;refine⟨_,k6 pa pr hs,λU Y H P F ds Q S hf q=>?_⟩;obtain⟨x,h1,hf⟩:=bnd hf;obtain⟨xs,h2,hf⟩:=bnd hf;cases hf
 exact qa U Y H P F _ _ S h1 λv H1 e1 r1=>qr U Y H1 P F _ _ (S.grow e1) h2 λvs H2 e2 r2=>q (v::vs) H2 (e1.trans e2) (denAll_cons (r1.den.up e2) r2)
def l6:PAN X M [] b8 []:=⟨_,n8,λU Y H P F ds Q S hf q=>by
 cases hf
 refine q [] H [] (Same.refl _) ?_ bE λa ha=>(nomatch ha)
 simp only[OwnTs];exact⟨trivial,trivial,trivial⟩⟩
def j9{fr:List D->Option (List D)}(ha:PX X M a fa (.new u))(hr:PAN X M es fr us)(hs:au (a::es) X.env=(xn,cI a X.env)::au es X.env:=by rfl):PAN X M (a::es) (a6 fa fr) (u::us):=by
 obtain⟨ta,pa,qa⟩:=ha.out;obtain⟨tr,pr,qr⟩:=hr;refine⟨_,k6 pa pr hs,λU Y H P F ds Q S hf q=>?_⟩;obtain⟨x,h1,hf⟩:=bnd hf;obtain⟨xs,h2,hf⟩:=bnd hf;cases hf
 refine qa U Y H P F _ _ S h1 λv H1 e1 ⟨fp,o,n,fr⟩=>qr U Y H1 P (fp++F) _ _ (S.more e1 fr (o.lst u)) h2 λvs H2 gp e2 o2 n2 As=>?_
 have hl:=o.lst u;have hc:Same (cut H1 (fp++F)) (cut H2 (fp++gp++F)):=K2 e2 λa o' ha lF=>by
  rw[aH]at lF;rcases ay.mp lF with z|z
  ·exact ak _ z
  ·rcases ay.mp z with z|z
   ·rw[As a z]at ha;cases ha
   ·exact aj _ z
 have hd:∀a∈gp,a∉fp:=λa ha z=>by
  obtain⟨ys,q⟩:=hl a z;rw[As a ha]at q;cases q
 refine q (v::vs) H2 (fp++gp) (e1.trans e2) ?_ ?_ λa ha=>?_
 ·simp only[OwnTs];refine⟨v,vs,x,xs,fp,gp,rfl,rfl,rfl,o.frame hc u λa ha=>?_,o2.frame (H:=H2) (C7 λa ha=>?_) us λ_ _=>rfl⟩
  ·obtain⟨ys,q⟩:=hl a ha;rw[q,e2 _ _ q]
  ·simp only[ay]at ha ⊢;rcases ha with (z|z)|z
   ·exact .inr (.inl z)
   ·exact .inl z
   ·exact .inr (.inr z)
 ·rw[bV];exact⟨n,n2,λa ha b hb e=>hd b hb (e▸ha)⟩
 ·rcases ay.mp ha with z|z
  ·exact fr a z
  ·exact e1.free (As a z)
end
section
variable {K:ag}{H H0 H1:Hp}{F fp:List aC}{vs:List V}{ds:List D}{p:aC}{u:Ty}{us:List Ty}
def b5Z(hp:H p=p4):Same (cut H (fp++F)) (cut (upd H p o) (p::fp++F)):=K2 (j8 hp o) λa u ha lF=>by
 rw[bP]at lF;rcases aN.mp lF with z|z
 ·subst z;rw[hp]at ha;cases ha
 ·exact z
theorem a4w:∀{n:Nat} {vs:List V} {ds:List D} {fp:List aC},OwnTs K H F (aI n u) vs ds fp->ListAll (Own K H F u) vs ds fp
 |0,_,_,_,h=>by
  simp only[hJ,OwnTs]at h;obtain⟨rfl,rfl,rfl⟩:=h;exact p7
 |n+1,_,_,_,h=>by
  simp only[jG,OwnTs]at h;obtain⟨v,r,d,e,f,g,rfl,rfl,rfl,h1,h2⟩:=h;exact n5 h1 (a4w h2)
theorem OwnTs.len:∀{us:List Ty} {vs:List V} {ds:List D} {fp:List aC},OwnTs K H F us vs ds fp->vs.length=us.length/\ds.length=us.length
 |[],_,_,_,h=>by simp only[OwnTs]at h;obtain⟨rfl,rfl,_⟩:=h;exact⟨rfl,rfl⟩
 |u::us,_,_,_,h=>by
  simp only[OwnTs]at h;obtain⟨v,r,d,e,f,g,rfl,rfl,rfl,_,h2⟩:=h;obtain⟨a,b⟩:=OwnTs.len h2;exact⟨by rw[aS,aS,a],by rw[aS,aS,b]⟩
def o9(e:Same (cut H F) (cut H1 F'))(h:ListAll (Own K H F u) vs ds fp)(k:∀a∈fp,H1 a=H a):ListAll (Own K H1 F' u) vs ds fp:=
 h.imp λv d f hf _ q=>q.frame e u λa ha=>k a (hf a ha)
def a2P(h:ListAll (Own K H1 (fp++F) u) vs ds fp)(hn:fp.Nodup)(hf:∀a∈fp,H a=p4)(e:Same H H1)(hp:H1 p=p4)(hl:∀a∈fp,∃ys:MuO,H1 a=cz ys.1):ResR K (.new (.l u)) H (upd H1 p (.lst vs)) F (.ref p) (.list ds):=by
 have wG:p∉fp:=λz=>by obtain⟨ys,q⟩:=hl p z;rw[hp]at q;cases q
 refine⟨p::fp,?_,cF.mpr ⟨wG,hn⟩,λa ha=>?_⟩
 ·simp only[Own];refine .inr ⟨p,vs,ds,fp,rfl,g8,rfl,rfl,o9 (b5Z hp) h λa ha=>?_⟩;exact c6 λz=>wG (z▸ha)
 ·rcases aN.mp ha with z|z
  ·subst z;exact e.free hp
  ·exact hf a z
theorem ListAll.of_den:∀{vs:List V} {ds:List D},DenAll K H vs ds->(∀v d,d∈ds->Den K H v d->R v d [])->ListAll R vs ds []
 |_,[],h,_=>by rw[h.nil_inv];exact p7
 |_,d::ds,h,k=>by
  obtain⟨v,r,rfl,h1,h2⟩:=h.cons_inv;have:=n5 (f:=[]) (k v d aK h1) (ListAll.of_den h2 λv d hd=>k v d (ar _ hd));exact this
theorem D9:∀{ds:List D} {d:D},c7 ds=rp->d∈ds->imm d=rp
 |[],d,_,h=>nomatch h
 |d0::ds,d,q,h=>by
  simp only[c7,aL]at q;rcases aN.mp h with z|z
  ·rw[z];exact q.1
  ·exact D9 q.2 z
def X7(h:DenAll K H1 vs ds)(hi:c7 ds=rp)(e:Same H H1)(hp:H1 p=p4)(hF:∀a∈F,∃ys:MuO,H1 a=cz ys.1):ResR K (.new (.l .i)) H (upd H1 p (.lst vs)) F (.ref p) (.list ds):=
 a2P (fp:=[]) (ListAll.of_den h λv d hd q=>by
  simp only[Own,bT];exact⟨trivial,D9 hi hd,q.imm_out hF d (D9 hi hd)⟩) bE (λa ha=>(nomatch ha)) e hp λa ha=>(nomatch ha)
def b0M(h:DenAll K (cut H1 F) vs ds)(e:Same H H1)(hp:H1 p=p4):ResR K (.new (.l .f)) H (upd H1 p (.lst vs)) F (.ref p) (.list ds):=
 a2P (fp:=[]) (ListAll.of_den h λv d hd q=>by
  simp only[Own,bT];exact⟨trivial,q⟩) bE (λa ha=>(nomatch ha)) e hp λa ha=>(nomatch ha)
def b2M(h:DenAll K H1 vs ds)(hp:H1 p=p4):Den K (upd H1 p (.lst vs)) (.ref p) (.list ds):=den_list (.inl (.inl g8)) (h.up (j8 hp _))
def a2Q(h:DenAll K H1 vs ds)(hp:H1 p=p4):Den K (upd H1 p (.tup vs)) (.ref p) (.tuple ds):=den_tup (SqT.of g8) (h.up (j8 hp _))
def b6a(h:c7 ds=rp):imm (.tuple ds)=rp:=by simpa only [imm]using h
end
def x6(f:EvA):EvE:=λU=>(f U).bind λds=>cz (.list ds)
def a0F(f:EvA):EvE:=λU=>(f U).bind λds=>cz (.tuple ds)
def a5q(d:D):Option D:=if imm d then cz d else p4
def a4x(h:a5q d=cz e):e=d/\imm d=rp:=by
 unfold a5q at h;by_cases c:imm d=rp
 ·rw[aE c]at h;exact⟨(aF h).symm,c⟩
 ·rw[aM c]at h;cases h
def b2N(d:D):Option D:=match d with
 |.list ds=>if c7 ds then cz d else p4
 |_=>p4
def a7R(h:b2N d=cz e):∃ds,d=.list ds/\e=.list ds/\c7 ds=rp:=by
 cases d with
 |list ds=>
  have h':(if c7 ds=rp then cz (cA ds) else p4)=cz e:=h;by_cases c:c7 ds=rp
  ·rw[aE c]at h';exact⟨ds,rfl,(aF h').symm,c⟩
  ·rw[aM c]at h';cases h'
 |_=>cases h
section
variable {X:Cx}{M:List Md}{a b e:Expr}{es:List Expr}{fa fb:EvE}{f:EvA}{c ca cb:Cat}{u:Ty}{us:List Ty}{pos:fV}
def q9(h:PAN X M es f (aI n u))(hn:n<=1000:=by decide):PX X M (.List es pos) (x6 f) (.new (.l u)):=by
 obtain⟨t,p,q⟩:=h;refine .mk ⟨_,b8S p,λU Y H P F d Q S hf k=>?_⟩;obtain⟨ds,h1,hf⟩:=bnd hf;cases hf
 refine q U Y H P F ds _ S h1 λvs H1 fp e o nd fr=>⟨?_,λx hx=>k (.ref x) _ (e.trans (j8 hx _)) (a2P (a4w o) nd fr e hx (o.lst _))⟩
 rw[o.len.1,fG];exact eJ (X4 hn)
def b9e(h:PAN X M es f us)(hn:us.length<=1000:=by decide):PX X M (.Tuple es j pos) (a0F f) (.new (.tp us)):=by
 obtain⟨t,p,q⟩:=h;refine .mk ⟨_,a7I p,λU Y H P F d Q S hf k=>?_⟩;obtain⟨ds,h1,hf⟩:=bnd hf;cases hf
 refine q U Y H P F ds _ S h1 λvs H1 fp e o nd fr=>⟨?_,λx hx=>k (.ref x) _ (e.trans (j8 hx _)) ⟨fp,?_,nd,fr⟩⟩
 ·rw[o.len.1];exact eJ (X4 hn)
 ·have Bh:x∉fp++F:=λz=>by
   rcases ay.mp z with z|z
   ·obtain⟨ys,q⟩:=o.lst _ x z;rw[hx]at q;cases q
   ·obtain⟨ys,q⟩:=S.lst' e x z;rw[hx]at q;cases q
  simp only[Own];refine .inr ⟨x,vs,ds,rfl,g8,Bh,rfl,o.frame (K3 (j8 hx _)) us λa ha=>?_⟩;exact c6 λz=>Bh (z▸ak _ ha)
theorem a6v:∀{n:Nat} {vs:List V} {ds:List D} {fp:List aC},OwnTs K H F (aI n .i) vs ds fp->c7 ds=rp
 |0,_,_,_,h=>by
  simp only[hJ,OwnTs]at h;obtain⟨rfl,rfl,rfl⟩:=h;simp only[c7]
 |n+1,_,_,_,h=>by
  simp only[jG,OwnTs]at h;obtain⟨v,r,d,e,f,g,rfl,rfl,rfl,h1,h2⟩:=h;simp only[c7,aL];exact⟨(a2N h1).2.1,a6v h2⟩
def a5r{j}(h:PAN X M es f (aI n .i))(hn:n<=1000:=by decide):PX X M (.Tuple es j pos) (a0F f) (.new .i):=by
 obtain⟨t,p,q⟩:=h;refine .mk ⟨_,a7I p,λU Y H P F d Q S hf k=>?_⟩;obtain⟨ds,h1,hf⟩:=bnd hf;cases hf
 refine q U Y H P F ds _ S h1 λvs H1 fp e o nd fr=>⟨?_,λx hx=>k (.ref x) _ (e.trans (j8 hx _)) (K5 (b6a (a6v o)) (a2Q (o.den _) hx) (S.lst' (e.trans (j8 hx _))))⟩
 rw[o.len.1,fG];exact eJ (X4 hn)
def b0N(hr:∀U ds,r U=cz ds->ds.length=n)(h:a6 fa r U=cz ds):ds.length=n+1:=by
 obtain⟨x,_,h⟩:=bnd h;obtain⟨xs,h2,h⟩:=bnd h;cases h
 rw[aS,hr U xs h2]
def dIx:D->D->Option D
 |.list ds,.int k=>atI ds k
 |.tuple ds,.int k=>atI ds k
 |_,_=>p4
def a3X:D->D->Option D
 |.list ds,.int k=>atI ds k
 |_,_=>p4
def p5(a b:D):Option D:=(dIx a b).bind a5q
theorem DenAll.atI(h:DenAll K H vs ds)(e:L2.atI ds k=cz d):∃v j,L2.atI vs k=cz v/\ixN ds.length k=cz j/\vs[j]?=cz v/\ds[j]?=cz d/\Den K H v d:=by
 unfold L2.atI at e ⊢;obtain⟨j,e1,e2⟩:=bnd e;obtain⟨v,h1,h2⟩:=h.get e2;exact⟨v,j,by rw[h.length,e1];exact h1,e1,h1,e2,h2⟩
def c1r(K:ag):R2:=λx y H Q=>c1k K x y H Q\/c1l K x y H Q
def a5s:IxR X (c1r X.K):=b5M.or b8V
def a9u(h:dIx x y=cz d):∃ds k,(x=.list ds\/x=.tuple ds)/\y=.int k/\L2.atI ds k=cz d:=by
 cases x with
 |list ds=>cases y with
  |int k=>exact⟨ds,k,.inl rfl,rfl,h⟩
  |_=>cases h
 |tuple ds=>cases y with
  |int k=>exact⟨ds,k,.inr rfl,rfl,h⟩
  |_=>cases h
 |_=>cases h
def c1s(hx:Den K H v x)(hy:Den K H w y)(h:dIx x y=cz d)(q:∀z,Den K H z d->Q z H):c1r K v w H Q:=by
 obtain⟨ds,k,e,rfl,h⟩:=a9u h;cases hy.int_inv
 rcases e with rfl|rfl
 ·obtain⟨a,xs,rfl,h1,h2⟩:=hx.list_inv;obtain⟨z,j,z1,z2,z3,z4,z5⟩:=h2.atI h;exact .inl ⟨a,xs,k,z,rfl,rfl,h1.l,z1,q z z5⟩
 ·obtain⟨a,xs,rfl,h1,h2⟩:=hx.tup_inv;obtain⟨z,j,z1,z2,z3,z4,z5⟩:=h2.atI h;exact .inr ⟨a,xs,k,z,rfl,rfl,h1,z1,q z z5⟩
def u9(ha:PX X M a fa ca)(hb:PX X M b fb cb)(hs:a2v b:=by exact λ_ _=>rfl):PX X M (.Subscript a b pos) (e2 p5 fa fb) (.new .i):=by
 obtain⟨ta,pa,qa⟩:=ha.out;obtain⟨tb,pb,qb⟩:=hb.out;refine .mk ⟨_,a9p a5s pa pb hs,λU Y H P F d Q S hf q=>?_⟩;obtain⟨x,y,h1,h2,h3⟩:=B8 hf;obtain⟨d',h3,h4⟩:=bnd h3;obtain⟨rfl,hi⟩:=a4x h4;exact qa U Y H P F x _ S h1 λv H1 e1 r1=>qb U Y H1 P F y _ (S.grow e1) h2 λw H2 e2 r2=>c1s (r1.den.up e2) r2.den h3 λz hz=>q z H2 (e1.trans e2) (K5 hi hz (S.lst' (e1.trans e2)))
def A5(ha:PX X M a fa (.new .f))(hb:PX X M b fb cb)(hs:a2v b:=by exact λ_ _=>rfl):PX X M (.Subscript a b pos) (e2 dIx fa fb) (.new .f):=by
 obtain⟨ta,pa,qa⟩:=ha.out;obtain⟨tb,pb,qb⟩:=hb.out;refine .mk ⟨_,a9p a5s pa pb hs,λU Y H P F d Q S hf q=>?_⟩;obtain⟨x,y,h1,h2,h3⟩:=B8 hf;refine qa U Y H P F x _ S h1 λv H1 e1 ⟨fp,o,_,_⟩=>qb U Y H1 P F y _ (S.grow e1) h2 λw H2 e2 r2=>?_
 obtain⟨rfl,o⟩:=b2H o;have o2:Den X.K (cut H2 F) v x:=o.up (K3 e2);obtain⟨ds,k,e,rfl,h⟩:=a9u h3;have fin:∀z,Den X.K (cut H2 F) z d->Q z H2:=λz hz=>q z H2 (e1.trans e2) ⟨[],by simp only[Own,bT];exact⟨trivial,hz⟩,bE,λa ha=>(nomatch ha)⟩
 have ey:=r2.den.int_inv;rcases e with rfl|rfl
 ·obtain⟨a,xs,rfl,h1,h2⟩:=o2.list_inv;obtain⟨z,j,z1,z2,z3,z4,z5⟩:=h2.atI h;exact .inl ⟨a,xs,k,z,rfl,ey,(N7 h1 j6).l,z1,fin z z5⟩
 ·obtain⟨a,xs,rfl,h1,h2⟩:=o2.tup_inv;obtain⟨z,j,z1,z2,z3,z4,z5⟩:=h2.atI h;exact .inr ⟨a,xs,k,z,rfl,ey,a2L h1 j6,z1,fin z z5⟩
def a5t(ha:PX X M a fa (.bor (.l u)))(hb:PX X M b fb cb)(hs:a2v b:=by exact λ_ _=>rfl):PX X M (.Subscript a b pos) (e2 a3X fa fb) (.bor u):=by
 obtain⟨ta,pa,qa⟩:=ha.out;obtain⟨tb,pb,qb⟩:=hb.out;refine .mk ⟨_,a9p a5s pa pb hs,λU Y H P F d Q S hf q=>?_⟩;obtain⟨x,y,h1,h2,h3⟩:=B8 hf;refine qa U Y H P F x _ S h1 λv H1 e1 ⟨fp,o,sub⟩=>qb U Y H1 P F y _ (S.grow e1) h2 λw H2 e2 r2=>?_
 have o2:=o.grow e2;cases x with
 |list ds=>
  cases y with
  |int k=>
   simp only[Own]at o2;rcases o2 with⟨_,hi,_⟩|⟨p,xs,kj,fs,rfl,p1,p2,rfl,p3⟩
   ·simp only[imm]at hi;cases hi
   ·cases p2
    have sH:(ixN ds.length k).bind (λj=>ds[j]?)=cz d:=h3;obtain⟨j,j1,j2⟩:=bnd sH;obtain⟨z,f,pre,post,z1,z2,z3,_,_⟩:=p3.at_ j2;refine .inl ⟨p,xs,k,z,rfl,r2.den.int_inv,.inl (.inl p1),?_,q z H2 (e1.trans e2) ⟨f,z2,λa ha=>sub a ?_⟩⟩
    ·unfold L2.atI;rw[p3.length,j1];exact z1
    ·rw[z3];exact ar _ (aj _ (ak _ ha))
  |_=>cases h3
 |_=>cases h3
end
def eCl(g:List D->Option D)(f:EvA):EvE:=λU=>(f U).bind g
section
variable {X:Cx}{M:List Md}{a b e e0:Expr}{es:List Expr}{fa fb:EvE}{f:EvA}{c ca cb:Cat}{u:Ty}{us:List Ty}{pos p:fV}{x:bM}
def Q5{id:String}{g:List D->Option D}(hc:a6u X (.builtin id) g)(hm:X.mg x=p4)(hv:ie x=cz (.builtin id))(h:PAX X M (e0::es) f)(hg:Gl X x:=by rfl)(hn:x≠"__name__":=by decide)(mH:(x==("__debug__":bM))=xn:=by decide)
  (he:au (e0::es) X.env=(xn,cI e0 X.env)::au es X.env:=by rfl) (gK:(cD pos (au es X.env)).any (·.1)=xn:=by rfl):PX X M (.Call (.Name x p) (e0::es) [] pos) (eCl g f) (.new .i):=by
 obtain⟨r,hr,hs⟩:=hc;obtain⟨t,pa,qa⟩:=h;refine .mk ⟨_,a0A hr hg hm hv pa hn mH he gK,λU Y H P F d Q S hf q=>?_⟩;obtain⟨ds,h1,hf⟩:=bnd hf;exact qa U Y H P F ds _ S h1 λvs H1 e1 r1=>hs vs H1 ds d Q r1 hf λz hi hd=>q z H1 e1 (K5 hi (hd H1) (S.lst' e1))
def a0G(h:DenAll K H xs [d]):∃v,xs=[v]/\Den K H v d:=by
 obtain⟨v,r,rfl,h1,h2⟩:=h.cons_inv;cases h2.nil_inv
 exact⟨v,rfl,h1⟩
def a2w{K:ag}{H:Hp}{xs:List V}{d e:D}(h:DenAll K H xs [d,e]):∃v w,xs=[v,w]/\Den K H v d/\Den K H w e:=by
 obtain⟨v,r,rfl,h1,h2⟩:=h.cons_inv;obtain⟨w,rfl,h3⟩:=a0G h2;exact⟨v,w,rfl,h1,h3⟩
def z0:List D->Option D
 |[.list ds]=>cz (.int ds.length)
 |[.tuple ds]=>cz (.int ds.length)
 |[.str x]=>if x.length<=br then cz (.int x.length) else p4
 |_=>p4
def b9f:a6u X (.builtin "len") z0:=by
 refine⟨_,a5g.or a5h,λxs H ds d Q hd hg q=>?_⟩
 match ds,hg with
 |[.list es],hg=>
  cases hg
  obtain⟨v,rfl,h⟩:=a0G hd;obtain⟨a,ys,rfl,h1,h2⟩:=h.list_inv;refine .inl ⟨a,ys,rfl,.inl h1.l,?_⟩;rw[h2.length];exact q _ (by simp only[imm]) λ_=>den_int
 |[.tuple es],hg=>
  cases hg
  obtain⟨v,rfl,h⟩:=a0G hd;obtain⟨a,ys,rfl,h1,h2⟩:=h.tup_inv;refine .inl ⟨a,ys,rfl,.inr h1,?_⟩;rw[h2.length];exact q _ (by simp only[imm]) λ_=>den_int
 |[.str x],hg=>
  have vB:(if x.length<=br then cz (aP x.length) else p4)=cz d:=hg;by_cases z:x.length<=br
  ·rw[aE z]at vB;cases vB
   obtain⟨v,rfl,h⟩:=a0G hd;cases h.str_inv
   exact .inr ⟨x,rfl,z,q _ (by simp only[imm]) λ_=>den_int⟩
  ·rw[aM z]at vB;cases vB
 |[.none],hg|[.bool _],hg|[.int _],hg|[.dict _],hg=>cases hg
 |[],hg=>cases hg
 |d1::_::_,hg=>cases d1<;>cases hg
def z7(mx:Bool):List D->Option D
 |[.int i,.int j]=>cz (.int (if mx then (if j>i then j else i) else (if j<i then j else i)))
 |_=>p4
def b2O(h:z7 mx ds=cz d):∃i j,ds=[.int i,.int j]/\d=.int (if mx then (if j>i then j else i) else (if j<i then j else i)):=by
 match ds,h with
 |[.int i,.int j],h=>cases h;exact⟨i,j,rfl,rfl⟩
def a5u(hc:X.calm=rp):a6u X (.builtin "max") (z7 rp):=by
 refine⟨_,b0z hc,λxs H ds d Q hd hg q=>?_⟩;obtain⟨i,j,rfl,rfl⟩:=b2O hg;obtain⟨v,w,rfl,h1,h2⟩:=a2w hd;cases h1.int_inv
 cases h2.int_inv
 exact⟨i,j,rfl,q _ (by simp only[imm]) λ_=>den_int⟩
def b2P(hc:X.calm=rp):a6u X (.builtin "min") (z7 xn):=by
 refine⟨_,b0A hc,λxs H ds d Q hd hg q=>?_⟩;obtain⟨i,j,rfl,rfl⟩:=b2O hg;obtain⟨v,w,rfl,h1,h2⟩:=a2w hd;cases h1.int_inv
 cases h2.int_inv
 exact⟨i,j,rfl,q _ (by simp only[imm]) λ_=>den_int⟩
def c1t:List D->Option (List Bool)
 |[]=>cz []
 |.bool b::r=>(c1t r).map (b::·)
 |_=>p4
def tyD:D->String
 |.int _=>"int"
 |.bool _=>"bool"
 |.list _=>"list"
 |.tuple _=>"tuple"
 |.none=>"NoneType"
 |.str _=>"str"
 |.dict _=>"dict"
def Den.ty{K:ag}{H:Hp}{v:V}:∀{d:D},Den K H v d->(∀ds,d≠.tuple ds)->(∀ds,d≠.list ds)->(∀ds,d≠.dict ds)->TyOf K H v (.type (tyD d))
 |.none,h,_,_,_=>by cases h.none_inv;exact .non
 |.bool _,h,_,_,_=>by cases h.bool_inv;exact .bl _
 |.int _,h,_,_,_=>by cases h.int_inv;exact .int _
 |.str _,h,_,_,_=>by cases h.str_inv;exact .str _
 |.list ds,h,_,q,_=>absurd rfl (q ds)
 |.tuple ds,h,q,_,_=>absurd rfl (q ds)
 |.dict ds,h,_,_,q=>absurd rfl (q ds)
def c1u(K:ag)(T:String)(g:D->Bool):List V->Hp->VK->Prop:=λxs H Q=>∃x d,xs=[x,.ty T]/\Den K H x d/\Q (.bl (g d)) H
def a7S{pins:List (aC×gc)}{Y:L2.St}{H:Hp}{s:ao}{A:bN}{E:ai->ao->Prop}{Q:ai->ao->Prop}{cv:ai}{k:Bool}{a:aC}{xs:List V}(I:Inv X pins Y H s)(h:SqT X.K H a xs)(e:fY X.K (.type "tuple") cv=cz k)(hq:∀tk,Q (.bool k) {s with toks:=tk}) :
  aW (a_ X.prog X.w) A (call (.builtin "isinstance") [.ref a,cv]) Q E s:=by
 obtain⟨its,_,⟨o,h1,h2,_⟩,_⟩:=I.tuple h;exact df AH I.kIn ⟨o,h1,h2⟩ e (λz=>nomatch z) hq
def a7T{pins:List (aC×gc)}{Y:L2.St}{H:Hp}{s:ao}{A:bN}{E:ai->ao->Prop}{Q:ai->ao->Prop}{cv:ai}{k:Bool}{a:aC}{xs:List V}(I:Inv X pins Y H s)(h:SqX X.K H a xs)(e:fY X.K (.type "list") cv=cz k)(hq:∀tk,Q (.bool k) {s with toks:=tk}) :
  aW (a_ X.prog X.w) A (call (.builtin "isinstance") [.ref a,cv]) Q E s:=by
 obtain⟨_,its,n,_,h1⟩:=h.ok I;exact df oB I.kIn ⟨_,h1,rfl⟩ e (λz=>nomatch z) hq
def a7U{pins:List (aC×gc)}{Y:L2.St}{H:Hp}{s:ao}{A:bN}{E:ai->ao->Prop}{Q:ai->ao->Prop}{cv:ai}{k:Bool}{a:aC}{es:List (D×V×V)}(I:Inv X pins Y H s)(h:H a=cz (f9 a es))(e:fY X.K (.type "dict") cv=cz k)(hq:∀tk,Q (.bool k) {s with toks:=tk}) :
  aW (a_ X.prog X.w) A (call (.builtin "isinstance") [.ref a,cv]) Q E s:=by
 obtain⟨⟨_,_,_,o,ents,_,h1,h2,_⟩,_⟩:=(show ObjOk X.prog X.w H s.heap a (f9 a es) from I.hok a _ h);exact df oD I.kIn ⟨o,h1,h2.1⟩ e (λz=>nomatch z) hq
def b0O{T:String}{g:D->Bool}(hf:∀(K:ag) (d:D),fY K (.type (tyD d)) (.type T)=cz (g d)):CallR X (.builtin "isinstance") (c1u X.K T g):=by
 intro pins s Y H xs us Q I r h;obtain⟨x,d,rfl,hd,q⟩:=h;obtain⟨u,w',rfl,rx,ry⟩:=vals2 r;cases (show w'=lr T from ry)
 by_cases ht:(∀ds,d≠.tuple ds)/\(∀ds,d≠.list ds)/\(∀ds,d≠.dict ds)
 ·exact b0C I rx (hd.ty ht.1 ht.2.1 ht.2.2) (hf X.K d) λtk=>⟨.bl _,H,I.tok tk,rfl,q⟩
 ·cases d with
  |list ds=>
   obtain⟨a,ys,rfl,h1,_⟩:=hd.list_inv;cases (show u=bt a from rx)
   exact a7T I h1 (hf X.K (.list ds)) λtk=>⟨.bl _,H,I.tok tk,rfl,q⟩
  |tuple ds=>
   obtain⟨a,ys,rfl,h1,_⟩:=hd.tup_inv;cases (show u=bt a from rx)
   exact a7S I h1 (hf X.K (.tuple ds)) λtk=>⟨.bl _,H,I.tok tk,rfl,q⟩
  |dict ds=>
   simp only[Den]at hd;obtain⟨a,es,rfl,h1,_⟩:=hd;cases (show u=bt a from rx)
   exact a7U I h1 (hf X.K (.dict ds)) λtk=>⟨.bl _,H,I.tok tk,rfl,q⟩
  |_=>exact absurd ⟨(λds z=>by cases z),(λds z=>by cases z),(λds z=>by cases z)⟩ ht
def isInt:D->Bool
 |.int _=>rp
 |.bool _=>rp
 |_=>xn
def isBool:D->Bool
 |.bool _=>rp
 |_=>xn
def isList:D->Bool
 |.list _=>rp
 |_=>xn
def a5v:D->Bool
 |.tuple _=>rp
 |_=>xn
def b2Q{g:D->Bool}(hf:∀(K:ag) (d:D),fY K (.type (tyD d)) (.type T)=cz (g d))(hm:X.mg "isinstance"=p4)(hy:X.mg y=p4)(hb:ie y=cz (.type T))(h:PX X M a fa ca)
  (hg:Gl X "isinstance":=by rfl) (xa:Gl X y:=by rfl) (DI:y≠"__name__":=by decide) (xg:(y==("__debug__":bM))=xn:=by decide)
  (he:au [a,.Name y py] X.env=(xn,cI a X.env)::au [.Name y py] X.env:=by rfl) (pR:au [.Name y py] X.env=(xn,cI (.Name y py) X.env)::au [] X.env:=by rfl) (gK:(cD pos (au [.Name y py] X.env)).any (·.1)=xn:=by rfl) :
  PX X M (.Call (.Name "isinstance" p) [a,.Name y py] [] pos) (e1 (λd=>cz (.bool (g d))) fa) (.new .i):=by
 obtain⟨ta,pa,qa⟩:=h.out;refine .mk ⟨_,a0A (b0O hf) hg hm PyProof.Rows.Boot.«isinstance» (k6 pa (k6 (b5x (v:=.ty T) xa hy hb rfl DI xg) n8 pR) he) (by decide) (by decide) he gK,λU Y H P F d Q S rm q=>?_⟩;obtain⟨x,h1,rm⟩:=bnd rm;cases rm
 exact qa U Y H P F x _ S h1 λv H1 e1 r1=>⟨v,x,rfl,r1.den,q _ H1 e1 (K5 (by simp only[imm]) den_bool (S.lst' e1))⟩
def b6b(K:ag)(d:D):fY K (.type (tyD d)) (.type "int")=cz (isInt d):=by cases d<;>rfl
def b2R(K:ag)(d:D):fY K (.type (tyD d)) (.type "bool")=cz (isBool d):=by cases d<;>rfl
end
def cutD(ds:List D)(lo hi:Option Int):List D:=(ds.drop (HT.sIx ds.length 0 lo)).take (HT.sIx ds.length ds.length hi-HT.sIx ds.length 0 lo)
abbrev EvO:=List D->Option (Option Int)
def oNo:EvO:=λ_=>cz p4
def asI:D->Option Int
 |.int i=>cz i
 |_=>p4
def oSo(a:EvE):EvO:=λU=>(a U).bind λd=>(asI d).bind λi=>cz (cz i)
def V6(h:asI d=cz i):d=.int i:=by
 cases d with
 |int j=>cases h;rfl
 |_=>cases h
def asL:D->Option (List D)
 |.list ds=>cz ds
 |_=>p4
def K6(h:asL d=cz ds):d=.list ds:=by
 cases d with
 |list j=>cases h;rfl
 |_=>cases h
def asS:D->Option (List D)
 |.list ds=>cz ds
 |.tuple ds=>cz ds
 |_=>p4
def POX(X:Cx)(M:List Md)(e:Option Expr)(f:EvO):Prop:=
 ∃t,PO X e t/\∀(U:List D) (Y:L2.St) (H P:Hp) (F:List aC) (o:Option Int) (Q:Option Int->Hp->Prop),StE X.K M U Y H P F->f U=cz o->(∀H',Same H H'->Q o H')->t Y H Q
def eSl(a:EvE)(lo hi:EvO):EvE:=λU=>(a U).bind λx=>(asL x).bind λds=>(lo U).bind λl=>(hi U).bind λh=>cz (.list (cutD ds l h))
def eI(a:EvE):EvE:=λU=>(a U).bind b2N
section
variable {X:Cx}{M:List Md}{a b e e0:Expr}{lo hi:Option Expr}{es:List Expr}{fa fb:EvE}{fl fh:EvO}{f:EvA}{c ca cb:Cat}{u:Ty}{us:List Ty}{pos p p2:fV}{x:bM}
def b2S:POX X M p4 oNo:=⟨_,b5K,λU Y H P F o Q S hf q=>by cases hf;exact q H (Same.refl _)⟩
def b2T(h:PX X M a fa ca):POX X M (cz a) (oSo fa):=by
 obtain⟨t,p,q⟩:=h.out;refine⟨_,b5L p,λU Y H P F o Q S hf k=>?_⟩;obtain⟨d,h1,rD⟩:=bnd hf;obtain⟨i,h2,rC⟩:=bnd rD;cases V6 h2
 cases rC
 exact q U Y H P F _ _ S h1 λv H1 e1 r1=>⟨i,r1.den.int_inv,k H1 e1⟩
structure MkL (X:Cx) (M:List Md) (e:Expr) (f:EvE) (A:Prop):Prop where
 run:∃t,PE X e t/\∀(U:List D) (Y:L2.St) (H P:Hp) (F:List aC) (d:D) (Q:VK),StE X.K M U Y H P F->f U=cz d->
  (∀vs ds H1 l,Same H H1->d=.list ds->DenAll X.K H1 vs ds->(A->DenAll X.K (cut H1 F) vs ds)->H1 l=p4->Q (.ref l) (upd H1 l (.lst vs)))->t Y H Q
theorem MkL.t{f:EvE}{A:Prop}(h:MkL X M e f A):PX X M e f .tmp:=by
 obtain⟨t,p,q⟩:=h.run;refine .mk ⟨t,p,λU Y H P F d Q S hf k=>q U Y H P F d Q S hf λvs ds H1 l e1 ed h1 _ hl=>?_⟩;subst ed;exact k _ _ (e1.trans (j8 hl _)) (b2M h1 hl)
def MkL.fz{f:EvE}(h:MkL X M e f True):PX X M e f (.new (.l .f)):=by
 obtain⟨t,p,q⟩:=h.run;refine .mk ⟨t,p,λU Y H P F d Q S hf k=>q U Y H P F d Q S hf λvs ds H1 l e1 ed _ h1 hl=>?_⟩;subst ed;exact k _ _ (e1.trans (j8 hl _)) (b0M (h1 trivial) e1 hl)
theorem MkL.i{f:EvE}{A:Prop}(h:MkL X M e f A):PX X M e (eI f) (.new (.l .i)):=by
 obtain⟨t,p,q⟩:=h.run;refine .mk ⟨t,p,λU Y H P F d Q S hf k=>?_⟩;obtain⟨d',g1,hc⟩:=bnd hf;clear hf;obtain⟨es,rfl,rfl,hi⟩:=a7R hc;refine q U Y H P F _ Q S g1 λvs ds H1 l e1 ed h1 _ hl=>?_
 cases ed
 exact k _ _ (e1.trans (j8 hl _)) (X7 h1 hi e1 hl (S.lst' e1))
def frozen:Cat->Prop
 |.new .f=>True
 |.new .i=>True
 |_=>False
def X8(hc:frozen c)(r:ResR K c H H1 F v d):Den K (cut H1 F) v d:=by
 match c,hc with
 |.new .f,_=>
  obtain⟨fp,o,_⟩:=r;obtain⟨rfl,o⟩:=b2H o;exact o
 |.new .i,_=>
  obtain⟨fp,o,_⟩:=r;obtain⟨rfl,_,o⟩:=a2N o;exact o
def I9(r:ResR K c H H1 F v (.list ds)):∃a xs,v=.ref a/\SqX K H1 a xs/\DenAll K H1 xs ds/\(frozen c->DenAll K (cut H1 F) xs ds):=by
 by_cases hc:frozen c
 ·obtain⟨a,xs,rfl,k1,k2⟩:=(X8 hc r).list_inv;exact⟨a,xs,rfl,N7 k1 j6,k2.up j6,λ_=>k2⟩
 ·obtain⟨a,xs,rfl,k1,k2⟩:=r.den.list_inv;exact⟨a,xs,rfl,k1,k2,λh=>absurd h hc⟩
def b2U:SlR X (λx lo hi H Q=>∃a xs,x=.ref a/\SqX X.K H a xs/\∀p,H p=p4->Q (.ref p) (upd H p (.lst (a7L xs lo hi)))):=by
 rintro pins s Y H x v vl vu lo hi sl Q I rx hs pl pu ⟨a,xs,e,h,q⟩;exact b5N pins s Y H x v vl vu lo hi sl Q I rx hs pl pu ⟨a,xs,e,h.l,q⟩
def a9v(h:DenAll K H vs ds)(lo hi:Option Int):DenAll K H (a7L vs lo hi) (cutD ds lo hi):=by
 unfold a7L cutD;rw[h.length];exact (h.drop _).take _
def b2V(ha:PX X M a fa ca)(hl:POX X M lo fl)(hh:POX X M hi fh):MkL X M (.Subscript a (.Slice lo hi p4 p2) pos) (eSl fa fl fh) (frozen ca):=by
 obtain⟨ta,pa,qa⟩:=ha.out;obtain⟨tl,pl,ql⟩:=hl;obtain⟨th,ph,qh⟩:=hh;refine⟨_,b2w b2U pa pl ph,λU Y H P F d Q S hf q=>?_⟩;obtain⟨x,h1,rD⟩:=bnd hf;obtain⟨ds,h2,rC⟩:=bnd rD;cases K6 h2
 obtain⟨l,h3,Aq⟩:=bnd rC;obtain⟨h,h4,vJ⟩:=bnd Aq;cases vJ
 refine qa U Y H P F _ _ S h1 λv H1 e1 r1=>ql U Y H1 P F l _ (S.grow e1) h3 λH2 e2=>qh U Y H2 P F h _ (S.grow (e1.trans e2)) h4 λH3 e3=>?_
 obtain⟨pp,xs,rfl,k1,k2,k3⟩:=I9 (r1.up (e2.trans e3));exact⟨pp,xs,rfl,k1,λz hz=>q _ _ H3 z ((e1.trans e2).trans e3) rfl (a9v k2 l h) (λhc=>a9v (k3 hc) l h) hz⟩
def G8(a:EvE):EvE:=λU=>(a U).bind λd=>(asS d).bind λds=>cz (.list ds)
def a0H(hm:X.mg "list"=p4)(ha:PX X M a fa ca)(hg:Gl X "list":=by rfl)(he:au [a] X.env=(xn,cI a X.env)::au [] X.env:=by rfl)(gK:(cD pos (au [] X.env)).any (·.1)=xn:=by rfl) :
  MkL X M (.Call (.Name "list" p) [a] [] pos) (G8 fa) (frozen ca):=by
 obtain⟨ta,pa,qa⟩:=ha.out;refine⟨_,J9 a5i hg hm PyProof.Rows.Boot.«list» (k6 pa n8 he) (by decide) (by decide) he gK,λU Y H P F d Q S hf q=>?_⟩;obtain⟨x,h1,rD⟩:=bnd hf;obtain⟨ds,h2,rC⟩:=bnd rD;cases rC
 refine qa U Y H P F _ _ S h1 λv H1 e1 r1=>?_
 cases x with
 |list es=>
  cases h2
  obtain⟨pp,xs,rfl,k1,k2,k3⟩:=I9 r1;exact⟨pp,xs,rfl,.inl k1.l,λz hz=>q _ _ H1 z e1 rfl k2 k3 hz⟩
 |tuple es=>
  cases h2
  by_cases hc:frozen ca
  ·obtain⟨pp,xs,rfl,k1,k2⟩:=(X8 hc r1).tup_inv;exact⟨pp,xs,rfl,.inr (a2L k1 j6),λz hz=>q _ _ H1 z e1 rfl (k2.up j6) (λ_=>k2) hz⟩
  ·obtain⟨pp,xs,rfl,k1,k2⟩:=r1.den.tup_inv;exact⟨pp,xs,rfl,.inr k1,λz hz=>q _ _ H1 z e1 rfl k2 (λh=>absurd h hc) hz⟩
 |_=>cases h2
def O6(a:EvE):EvE:=λU=>(a U).bind λd=>(asS d).bind λds=>a5q (.tuple ds)
def a0I(hm:X.mg "tuple"=p4)(ha:PX X M a fa ca)(hg:Gl X "tuple":=by rfl)(he:au [a] X.env=(xn,cI a X.env)::au [] X.env:=by rfl)(gK:(cD pos (au [] X.env)).any (·.1)=xn:=by rfl) :
  PX X M (.Call (.Name "tuple" p) [a] [] pos) (O6 fa) (.new .i):=by
 obtain⟨ta,pa,qa⟩:=ha.out;refine .mk ⟨_,J9 Y9 hg hm PyProof.Rows.Boot.«tuple» (k6 pa n8 he) (by decide) (by decide) he gK,λU Y H P F d Q S hf q=>?_⟩;obtain⟨x,h1,rD⟩:=bnd hf;obtain⟨ds,h2,rC⟩:=bnd rD;obtain⟨rfl,hi⟩:=a4x rC;refine qa U Y H P F _ _ S h1 λv H1 e1 r1=>?_
 cases x with
 |list es=>
  cases h2
  obtain⟨pp,xs,rfl,k1,k2⟩:=r1.den.list_inv;exact⟨pp,xs,rfl,.inl ⟨k1.l,λz hz=>q _ _ (e1.trans (j8 hz _)) (K5 hi (a2Q k2 hz) (S.lst' (e1.trans (j8 hz _))))⟩⟩
 |tuple es=>
  cases h2
  obtain⟨pp,xs,rfl,k1,k2⟩:=r1.den.tup_inv;exact⟨pp,xs,rfl,.inr ⟨k1,q _ _ e1 (K5 hi (den_tup k1 k2) (S.lst' e1))⟩⟩
 |_=>cases h2
def a9w(a:EvE):EvE:=λU=>(a U).bind λd=>(asS d).bind λds=>cz (.tuple ds)
def b0P(hm:X.mg "tuple"=p4)(ha:PX X M a fa ca)(hg:Gl X "tuple":=by rfl)(he:au [a] X.env=(xn,cI a X.env)::au [] X.env:=by rfl)(gK:(cD pos (au [] X.env)).any (·.1)=xn:=by rfl) :
  PX X M (.Call (.Name "tuple" p) [a] [] pos) (a9w fa) .tmp:=by
 obtain⟨ta,pa,qa⟩:=ha.out;refine .mk ⟨_,J9 Y9 hg hm PyProof.Rows.Boot.«tuple» (k6 pa n8 he) (by decide) (by decide) he gK,λU Y H P F d Q S hf q=>?_⟩;obtain⟨x,h1,rD⟩:=bnd hf;obtain⟨ds,h2,rC⟩:=bnd rD;cases rC
 refine qa U Y H P F _ _ S h1 λv H1 e1 r1=>?_
 cases x with
 |list es=>
  cases h2
  obtain⟨pp,xs,rfl,k1,k2⟩:=r1.den.list_inv;exact⟨pp,xs,rfl,.inl ⟨k1.l,λz hz=>q _ _ (e1.trans (j8 hz _)) (a2Q k2 hz)⟩⟩
 |tuple es=>
  cases h2
  obtain⟨pp,xs,rfl,k1,k2⟩:=r1.den.tup_inv;exact⟨pp,xs,rfl,.inr ⟨k1,q _ _ e1 (den_tup k1 k2)⟩⟩
 |_=>cases h2
def b6c:OpR X (gn .Add) (λx y H Q=>∃l b xs zs,x=.ref l/\y=.ref b/\SqX X.K H l xs/\SqX X.K H b zs/\xs.length+zs.length<=br/\∀p,H p=p4->Q (.ref p) (upd H p (.lst (xs++zs)))):=by
 intro pins s Y H x y v u Q I rx ry h;obtain⟨l,b,xs,zs,rfl,rfl,hH,hB,hz,q⟩:=h;cases rx
 cases ry
 obtain⟨z,its,n,r,e⟩:=hH.ok I;obtain⟨z2,oW,n2,r2,e2⟩:=hB.ok I;have hl:=r.length;have sv:=r2.length;refine PySem.P.add_list e e2 ?_ (by rw[bj,bj];lia);have ea:its.toArray++oW.toArray=(its++oW).toArray:=by simp
 rw[ea];exact⟨.ref _,_,I.lnew (t':=s.toks) (r.append r2) (by rw[av];lia),rfl,q _ I.fresh⟩
def F8(a b:EvE):EvE:=λU=>(a U).bind λx=>(asL x).bind λds=>(b U).bind λy=>(asL y).bind λes=>if ds.length+es.length<=br then cz (.list (ds++es)) else p4
def a0i(ha:PX X M a fa ca)(hb:PX X M b fb cb):MkL X M (.BinOp a .Add b pos) (F8 fa fb) (frozen ca/\frozen cb):=by
 obtain⟨ta,pa,qa⟩:=ha.out;obtain⟨tb,pb,qb⟩:=hb.out;refine⟨_,b7U b6c pa pb,λU Y H P F d Q S hf q=>?_⟩;obtain⟨x,h1,rD⟩:=bnd hf;obtain⟨ds,h2,rC⟩:=bnd rD;cases K6 h2
 obtain⟨y,h3,Aq⟩:=bnd rC;obtain⟨es,h4,vJ⟩:=bnd Aq;cases K6 h4
 by_cases hz:ds.length+es.length<=br
 ·rw[aE hz]at vJ;cases vJ
  refine qa U Y H P F _ _ S h1 λv H1 e1 r1=>qb U Y H1 P F _ _ (S.grow e1) h3 λw H2 e2 r2=>?_
  obtain⟨pp,xs,rfl,k1,k2,k3⟩:=I9 (r1.up e2);obtain⟨qq,ys,rfl,j1,j2,j3⟩:=I9 r2;exact⟨pp,qq,xs,ys,rfl,rfl,k1,j1,by rw[k2.length,j2.length];exact hz,λz hz=>q _ _ H2 z (e1.trans e2) rfl (k2.append j2) (λhc=>(k3 hc.1).append (j3 hc.2)) hz⟩
 ·rw[aM hz]at vJ;cases vJ
def spD(K:ag)(n:Nat)(m:List D->Option D)(u:Ty):Sp:=λvs H Q _=>∃ds d,vs.length=n/\DenAll K H vs ds/\m ds=cz d/\∀v H' fp,Same H H'->Own K H' fp u v d fp->fp.Nodup->(∀a∈fp,H a=p4)->Q v H'
def a2x(W:Has X.prog X.w X.K X.mg X.base x k ps (spD X.K n m u))(hr:Room k X.A)(h:PAX X M (e0::es) f)(hu:u.shut=rp:=by rfl)(hl:(e0::es).length=n:=by rfl)(hfl:∀U ds,f U=cz ds->ds.length=(e0::es).length)
  (hg:Gl X x:=by rfl) (mH:(x==("__debug__":bM))=xn:=by decide) (he:au (e0::es) X.env=(xn,cI e0 X.env)::au es X.env:=by rfl) (gK:(cD pos (au es X.env)).any (·.1)=xn:=by rfl) :
  PX X M (.Call (.Name x p) (e0::es) [] pos) (eCl m f) (.new u):=by
 obtain⟨t,pa,qa⟩:=h;refine .mk ⟨_,a5k W hr pa hg mH he gK,λU Y H P F d Q S hf q=>?_⟩;obtain⟨ds,h1,hf⟩:=bnd hf;refine qa U Y H P F ds _ S h1 λvs H1 e1 r1=>?_
 show spD X.K n m u (vs++[]) H1 Q E0;rw[aX];refine⟨ds,d,by rw[r1.length,hfl U ds h1,hl],r1,hf,λv H' fp e o nd fr=>q v H' (e1.trans e) ⟨fp,o.shut_out (λa ha=>?_) u hu,nd,λa ha=>e1.free (fr a ha)⟩⟩;rcases ay.mp ha with z|z
 ·exact o.lst u a z
 ·exact S.lst' (e1.trans e) a z
end
structure Walks (J:It) (Pr:Hp->Prop) (xs:List V):Prop where
 go:∀i H,Pr H->i<xs.length->J.go i H
 stop:∀i H,Pr H->xs.length<=i->J.stop i H
 yld:∀i H x H',Pr H->i<xs.length->J.yld i H x H'->H'=H/\xs[i]?=cz x
def a7V:Walks (Itl K a) (λH=>SqL K H a xs) xs where
 go:=λi H h hi=>⟨xs,xs[i],h,by simp[hi]⟩
 stop:=λi H h hi=>⟨xs,h,hi⟩
 yld:=λi H x H' h _ y=>⟨y.1,y.2 xs h⟩
def a6w:Walks (Itr lo n) (λ_=>True) ((aw n).map λ(k:Nat)=>V.int (lo+k)) where
 go:=λi H h hi=>by show i<n;simpa using hi
 stop:=λi H h hi=>by show n<=i;simpa using hi
 yld:=λi H x H' h hi y=>by
  obtain⟨e,y⟩:=y;refine⟨e,?_⟩;have lG:i<n:=by simpa using hi
  rw[y];simp[lG]
def PIX(X:Cx)(M:List Md)(tg iter:Expr)(f:EvA):Prop:=
 ∃wi,PI X tg iter wi/\∀(U:List D) (Y:L2.St) (H P:Hp) (F:List aC) (ds:List D) (R:It->Hp->Prop),StE X.K M U Y H P F->f U=cz ds->
  (∀J xs Pr H1,Same H H1->Walks J Pr xs->(∀H2,Same (cut H1 F) H2->Pr H2)->DenAll X.K (cut H1 F) xs ds->R J H1)->wi Y H R
def iL(a:EvE):EvA:=λU=>(a U).bind asL
def E1(lo:Int)(n:Nat):List D:=(aw n).map λ(k:Nat)=>.int (lo+k)
def iR(a:EvE):EvA:=λU=>(a U).bind λd=>(asI d).bind λn=>if -(2^62)<=n/\n<2^62 then cz (E1 0 n.toNat) else p4
def iI(f:EvA):EvA:=λU=>(f U).bind λds=>if c7 ds then cz ds else p4
section
variable {X:Cx}{M:List Md}{a b e tg iter:Expr}{fa fb:EvE}{f:EvA}{ca cb:Cat}{pos p:fV}
def k8(h:PX X M a fa ca)(hc:frozen ca:=by trivial):PIX X M tg a (iL fa):=by
 obtain⟨t,p,q⟩:=h.out;refine⟨_,b5A p,λU Y H P F ds R S hf k=>?_⟩;obtain⟨d,h1,h2⟩:=bnd hf;cases K6 h2
 refine q U Y H P F _ _ S h1 λv H1 e1 r1=>?_
 obtain⟨aa,xs,rfl,k1,k2⟩:=(X8 hc r1).list_inv;exact⟨aa,rfl,⟨xs,(N7 k1 j6).l⟩,k _ xs _ H1 e1 a7V (λH2 e2=>(N7 k1 e2).l) k2⟩
def b0Q:DenAll K H ((aw n).map λ(k:Nat)=>V.int (lo+k)) (E1 lo n):=by
 have:∀l:List Nat,DenAll K H (l.map λ(k:Nat)=>V.int (lo+k)) (l.map λ(k:Nat)=>aP (lo+k)):=by
  intro l
  induction l with
  |nil=>exact denAll_nil
  |cons x l ih=>exact denAll_cons den_int ih
 exact this _
def z8(hm:X.mg "range"=p4)(h:PX X M a fa ca)(hg:Gl X "range":=by rfl)(he:au [a] X.env=[(xn,cI a X.env)]:=by rfl)(pR:au [a] X.env=(xn,cI a X.env)::au [] X.env:=by rfl) :
  PIX X M tg (.Call (.Name "range" p) [a] [] pos) (iR fa):=by
 obtain⟨t,p,q⟩:=h.out;refine⟨_,b0x hg hm (k6 p n8 pR) he,λU Y H P F ds R S hf k=>?_⟩;obtain⟨d,h1,g1⟩:=bnd hf;obtain⟨n,h2,g2⟩:=bnd g1;cases V6 h2
 by_cases c:-(2^62)<=n/\n<2^62
 ·rw[aE c]at g2;cases g2
  exact q U Y H P F _ _ S h1 λv H1 e1 r1=>⟨n,by rw[r1.den.int_inv],c.1,c.2,k _ _ _ H1 e1 a6w (λ_ _=>trivial) b0Q⟩
 ·rw[aM c]at g2;cases g2
def PIX.i(h:PIX X M tg iter f):PIX X M tg iter (iI f):=by
 obtain⟨wi,p,q⟩:=h;refine⟨wi,p,λU Y H P F ds R S hf k=>?_⟩;obtain⟨es,h1,g1⟩:=bnd hf;by_cases c:c7 es=rp
 ·rw[aE c]at g1;cases g1
  exact q U Y H P F _ R S h1 k
 ·rw[aM c]at g1;cases g1
end
def TgR(K:ag)(g:TG)(n:Nat)(pt:D->Option (List D)):Prop:=
 ∀(H Hc:Hp) (x:V) (d:D) (ds:List D) (Y:L2.St) (Q:L2.St->Hp->Prop),Same Hc H->Den K Hc x d->pt d=cz ds->n<=Y.length->(∀vs,DenAll K Hc vs ds->vs.length=n->Q (vs.map cz++Y.drop n) H)->g x Y H Q
def pt1(d:D):Option (List D):=cz [d]
def pt2:D->Option (List D)
 |.tuple [a,b]=>cz [a,b]
 |_=>p4
def v9:TgR K (V0 0) 1 pt1:=by
 intro H Hc x d ds Y Q e hd hp hn k;cases hp
 cases Y with
 |nil=>simp at hn
 |cons o Y=>exact k [x] (denAll_cons hd denAll_nil) rfl
def a9x:TgR K (b8C K 2 (a6m (V0 0) (a6m (V0 1) b8B))) 2 pt2:=by
 intro H Hc x d ds Y Q e hd hp hn k
 match d,hp with
 |.tuple [a,b],hp=>
  cases hp
  obtain⟨aa,xs,rfl,h1,h2⟩:=hd.tup_inv;obtain⟨v,w,rfl,h3,h4⟩:=a2w h2
  match Y,hn with
  |o::o'::Y,_=>
   exact⟨aa,_,rfl,a2L h1 e,rfl,v,[w],rfl,w,[],rfl,rfl,k [v,w] (denAll_cons h3 (denAll_cons h4 denAll_nil)) rfl⟩
def U1(pt:D->Option (List D))(t:EvT)(g:EvE)(cs:List D):List D->Option (List D)
 |[]=>cz []
 |d::ds=>(pt d).bind λbs=>(t (bs++cs)).bind λk=>if k then (g (bs++cs)).bind λy=>(U1 pt t g cs ds).bind λys=>cz (y::ys) else U1 pt t g cs ds
def m6(fi:EvA)(js:List Nat)(pt:D->Option (List D))(t:EvT)(g:EvE):EvE:=λU=>(fi U).bind λds=>if ds.length<=1000000 then (U1 pt t g (js.map λj=>U.getD j .none) ds).bind λys=>cz (.list ys) else p4
def tT:EvT:=λ_=>cz rp
def V7(m:Md)(n:Nat)(M:List Md)(js:List Nat):List Md:=aI n m++js.map λj=>M.getD j .dead
section
variable {K:ag}{J:It}{Pr:Hp->Prop}{xs:List V}{Dl:aC}{g:TG}{tt:TT}{te:TE}{Y:L2.St}{H:Hp}{R:Hp->Prop}
def b0R(hw:Walks J Pr xs)(Pv:Nat->List V->L2.St->Hp->Prop)(h0:Pv 0 [] Y (upd H Dl (.lst [])))(hp:∀i ys Y H,Pv i ys Y H->Pr H)
  (hs:∀i x ys Y H,xs[i]?=cz x->Pv i ys Y H->g x Y H λY3 H3=>tt Y3 H3 λb H4=>if b=rp then te Y3 H4 λy H5=>H5 Dl=cz (.lst ys)/\ys.length<br/\Pv (i+1) (ys++[y]) Y3 (upd H5 Dl (.lst (ys++[y]))) else Pv (i+1) ys Y3 H4)
  (hd:∀ys Y H,Pv xs.length ys Y H->R H) :
  ∃W:Nat->Nat->List V->L2.St->Hp->Prop,(∃m,W 0 m [] Y (upd H Dl (.lst [])))/\∀i m ys Y' H',W i m ys Y' H'->(J.stop i H'/\R H')\/
   (J.go i H'/\∃(N:V->L2.St->Hp->Prop) (NO:L2.St->Hp->Prop),(∀y Y3 H4,N y Y3 H4->H4 Dl=cz (.lst ys)/\ys.length<br/\∃m',m'<m/\W (i+1) m' (ys++[y]) Y3 (upd H4 Dl (.lst (ys++[y]))))/\
    (∀Y3 H4,NO Y3 H4->∃m',m'<m/\W (i+1) m' ys Y3 H4)/\∀x H2,J.yld i H' x H2->g x Y' H2 λY3 H3=>tt Y3 H3 λb H4=>if b=rp then te Y3 H4 λy H5=>N y Y3 H5 else NO Y3 H4):=by
 refine⟨λi m ys Y H=>m=xs.length-i/\i<=xs.length/\Pv i ys Y H,⟨xs.length,by simp,bL _,h0⟩,?_⟩;rintro i m ys Y H ⟨rfl,hi,p⟩;have q:=hp i ys Y H p;by_cases jN:i<xs.length
 ·refine .inr ⟨hw.go i H q jN,λy Y3 H4=>H4 Dl=cz (.lst ys)/\ys.length<br/\Pv (i+1) (ys++[y]) Y3 (upd H4 Dl (.lst (ys++[y]))),λY3 H4=>Pv (i+1) ys Y3 H4,λy Y3 H4 ⟨r1,r2,r3⟩=>⟨r1,r2,xs.length-(i+1),by lia,rfl,jN,r3⟩,λY3 H4 r3=>⟨xs.length-(i+1),by lia,rfl,jN,r3⟩,λx H' y=>?_⟩;obtain⟨e,yy⟩:=hw.yld i H x H' q jN y;subst e;exact hs i x ys Y _ yy p
 ·have e:i=xs.length:=by lia
  subst e;exact .inl ⟨hw.stop _ H q (az _),hd ys Y H p⟩
end
def b2W{js:List Nat}(S:StE K M U Y H P F)(hm:m=.i\/m=.f)(hv:DenAll K (cut H F) vs bs)(hi:m=.i->c7 bs=rp)(hn:vs.length=n)
  (hY:Yb=vs.map cz++js.map λj=>(Y[j]?).getD p4):StE K (V7 (.own m) n M js) (bs++js.map λj=>U.getD j .none) Yb H P F:=by
 obtain⟨G,h1,h3⟩:=S.all;obtain⟨G',q,hq⟩:=h1.pick h3 js;refine⟨⟨G',?_,hq⟩,S.lst,S.prot⟩;subst hY hn;unfold V7;have key:∀{vs:List V} {bs:List D},DenAll K (cut H F) vs bs->(m=.i->c7 bs=rp)->StAll K H F (aI vs.length (.own m)++js.map λj=>M.getD j .dead) (bs++js.map λj=>U.getD j .none) (vs.map cz++js.map λj=>(Y[j]?).getD p4) G':=by
  intro vs
  induction vs with
  |nil=>
   intro bs h _;have hl:=h.length;have:bs=[]:=tR.mp (by simpa using hl.symm);subst this;exact q
  |cons v vs ih=>
   intro bs h hi;cases bs with
   |nil=>have:=h.length;simp at this
   |cons b bs=>
    obtain⟨v',r,e,h4,h5⟩:=h.cons_inv;cases e
    have:=k7 (K:=K) (H:=H) (F:=F) (m:=.own m) (d:=b) (o:=cz v) (f:=[]) ⟨v,rfl,by
     rcases hm with rfl|rfl
     ·have:=hi rfl;simp only[c7,aL]at this;simp only[Own];exact⟨trivial,this.1,h4⟩
     ·simp only[Own];exact⟨trivial,h4⟩⟩ (ih h5 λe=>by have:=hi e;simp only[c7,aL]at this;exact this.2)
    simpa[jG]using this
 exact key hv hi
def a7W(h:U1 pt t g cs (d::ds)=cz rs) :
  ∃bs k,pt d=cz bs/\t (bs++cs)=cz k/\((k=rp/\∃y ys,g (bs++cs)=cz y/\U1 pt t g cs ds=cz ys/\rs=y::ys)\/(k=xn/\U1 pt t g cs ds=cz rs)):=by
 simp only[U1]at h;obtain⟨bs,h1,g1⟩:=bnd h;obtain⟨k,h2,g2⟩:=bnd g1;refine⟨bs,k,h1,h2,?_⟩;cases k with
 |true=>
  rw[aE rfl]at g2;obtain⟨y,h3,g3⟩:=bnd g2;obtain⟨ys,h4,g4⟩:=bnd g3;cases g4
  exact .inl ⟨rfl,y,ys,h3,h4,rfl⟩
 |false=>
  rw[aM cu]at g2;exact .inr ⟨rfl,g2⟩
section
variable {X:Cx}{M:List Md}{tn ys:List bM}{js:List Nat}{scope:gL}{elt tg iter:Expr}{ifs:List Expr}{pos:fV}{g:TG}{n:Nat}{pt:D->Option (List D)}{fi:EvA}{ft:EvT}{fe:EvE}{u m:Ty}
def a4y(hi:∀(U:List D) (Y:L2.St) (H P:Hp) (F:List aC) (ds:List D) (R:It->Hp->Prop),StE X.K M U Y H P F->fi U=cz ds->
   (∀J xs Pr H1,Same H H1->Walks J Pr xs->(∀H2,Same (cut H1 F) H2->Pr H2)->DenAll X.K (cut H1 F) xs ds->R J H1)->wi Y H R)
  (hg:TgR X.K g n pt) (hm:m=.i\/m=.f) (tm:m=.i->∀U ds,fi U=cz ds->∀d∈ds,∀bs,pt d=cz bs->c7 bs=rp) (wA:tn.length=n)
  (S:StE X.K M U Y H P F) (hf:m6 fi js pt ft fe U=cz d) (q:∀v H',Same H H'->ResR X.K (.new (.l u)) H H' F v d->Q v H') :
  a5l wi g (spT X.K (V7 (.own m) n M js) ft) (spE X.K (V7 (.own m) n M js) fe (.new u)) (a1h tn js) Y H Q:=by
 obtain⟨ds,h1,g1⟩:=bnd hf;by_cases hz:ds.length<=1000000
 ·rw[aE hz]at g1;obtain⟨res,h2,g2⟩:=bnd g1;cases g2
  refine hi U Y H P F ds _ S h1 λJ xs Pr H1 e1 hw uv hx Dl hD=>?_
  have qQ:=hx.length;have GL:Dl∉F:=λz=>by obtain⟨zs,w⟩:=S.lst' e1 Dl z;rw[hD]at w;cases w
  refine b0R hw (λi ys Y' H'=>(∃os:L2.St,os.length=n/\Y'=os++js.map λj=>(Y[j]?).getD p4)/\H' Dl=cz (.lst ys)/\Same H1 H'/\∃(fp:List aC) (zs rs:List D),ListAll (Own X.K H' (Dl::fp++F) u) ys zs fp/\fp.Nodup/\(∀a∈fp,H1 a=p4)/\Dl∉fp/\
    U1 pt ft fe (js.map λj=>U.getD j .none) (ds.drop i)=cz rs/\res=zs++rs/\ys.length<=i) ?_ ?_ ?_ ?_
  ·exact⟨⟨_,by rw[fG];exact wA,rfl⟩,g8,j8 hD _,[],[],res,p7,bE,λa ha=>(nomatch ha),λh=>(nomatch h),h2,rfl,az _⟩
  ·rintro i ys Y' H' ⟨_,_,e,_⟩;exact uv H' (j6.trans e)
  ·rintro i x ys Y' H' sk ⟨⟨os,ho,rfl⟩,vI,e2,fp,zs,rs,gR,qA,nU,rA,hc,q_,De⟩;obtain⟨d,sD,_⟩:=hx.getV sk;have nT:i<ds.length:=(aD.mp sD).1;have om:ds.drop i=d::ds.drop (i+1):=by
    rw[dw nT]
    congr 1;exact (aD.mp sD).2
   rw[om]at hc;obtain⟨bs,k,ye,lg,DD⟩:=a7W hc;have hfl:∀a∈Dl::fp,∃zs:MuO,H' a=cz zs.1:=λa ha=>by
    rcases aN.mp ha with z|z
    ·subst z;exact⟨⟨.lst ys,trivial⟩,vI⟩
    ·exact gR.lst (u:=u) (λv d f q=>q.lst u) a z
   have o_:∀a∈Dl::fp,H1 a=p4:=λa ha=>by
    rcases aN.mp ha with z|z
    ·subst z;exact hD
    ·exact nU a z
   have S1:StE X.K M U Y H' P (Dl::fp++F):=(S.grow e1).more (fp:=Dl::fp) e2 o_ hfl;have Ac:DenAll X.K (cut H' (Dl::fp++F)) xs ds:=hx.up (a0D (fp:=Dl::fp) e2 o_);obtain⟨d',xi,tD⟩:=Ac.getV sk;rw[sD]at xi;cases xi
   refine hg H' _ x d bs _ _ j6 tD ye (by rw[av,ho];lia) λvs oM zm=>?_
   rw[pZ (by lia),uW (by lia),bT];have SB:StE X.K (V7 (.own m) n M js) (bs++js.map λj=>U.getD j .none) (vs.map cz++js.map λj=>(Y[j]?).getD p4) H' P (Dl::fp++F):=
    b2W S1 hm oM (λe=>tm e U ds h1 d (bo sD) bs ye) zm rfl
   refine⟨_,P,_,k,SB,lg,λH3 e3=>?_⟩;rcases DD with⟨rfl,y,rest,DC,zC,rfl⟩|⟨rfl,zC⟩
   ·refine a6r ⟨_,P,_,y,SB.grow e3,DC,λv H4 e4 qz=>?_⟩;obtain⟨gp,o,nd,fr⟩:=qz;have yD:=e3.trans e4;have By:Dl∉gp:=λz=>by have w:=fr Dl z;rw[e3 _ _ vI]at w;cases w
    have Et:∀a∈gp,a∉fp:=λa ha z=>by
     obtain⟨zs,w⟩:=hfl a (ar _ z);have w2:=fr a ha;rw[e3 _ _ w]at w2;cases w2
    have mG:∀a,a∈Dl::(fp++gp)++F->a∈gp++(Dl::fp++F):=λa ha=>by
     simp only[bP,aN,ay]at ha ⊢;rcases ha with z|(z|z)|z
     ·exact .inr (.inl z)
     ·exact .inr (.inr (.inl z))
     ·exact .inl z
     ·exact .inr (.inr (.inr z))
    have Ae:Same (cut H' (Dl::fp++F)) (cut (upd H4 Dl (.lst (ys++[v]))) (Dl::(fp++gp)++F)):=λa o' ha=>by
     obtain⟨n1,n2⟩:=m9 ha;have i_:a≠Dl:=λz=>n1 (by rw[z];exact ak _ aK)
     refine i7 (λz=>?_) (by rw[c6 i_];exact yD _ _ n2);rcases ay.mp (mG a z) with w|w
     ·have:=fr a w;rw[e3 _ _ n2]at this;cases this
     ·exact n1 w
    have EJ:Same (cut H4 (gp++(Dl::fp++F))) (cut (upd H4 Dl (.lst (ys++[v]))) (Dl::(fp++gp)++F)):=λa o' ha=>by
     obtain⟨n1,n2⟩:=m9 ha;have i_:a≠Dl:=λz=>n1 (by rw[z];exact aj _ (ak _ aK))
     exact i7 (λz=>n1 (mG a z)) (by rw[c6 i_];exact n2)
    refine⟨yD _ _ vI,?_,⟨_,by rw[af];exact zm,rfl⟩,g8,?_,fp++gp,zs++[y],rest,?_,?_,?_,?_,zC,by rw[q_,aH];rfl,by rw[av];simp;lia⟩
    ·exact kc (cC De (cC (eJ nT) hz)) (by rw[dB];decide)
    ·exact b2y (e2.trans yD) hD _
    ·refine (o9 Ae gR λa ha=>?_).append ?_
     ·rw[c6 (show a≠Dl from λz=>rA (z▸ha))];obtain⟨zs,w⟩:=hfl a (ar _ ha);rw[w,yD _ _ w]
     ·have:=n5 (R:=Own X.K (upd H4 Dl (.lst (ys++[v]))) (Dl::(fp++gp)++F) u) (o.frame EJ u λa ha=>c6 (λz=>By (z▸ha))) p7
      rwa[aX]at this
    ·rw[bV];exact⟨qA,nd,λa ha b hb e=>Et b hb (e▸ha)⟩
    ·intro a ha;rcases ay.mp ha with z|z
     ·exact nU a z
     ·exact (e2.trans e3).free (fr a z)
    ·intro z;rcases ay.mp z with w|w
     ·exact rA w
     ·exact By w
   ·refine a6q ?_;have Ae:Same (cut H' (Dl::fp++F)) (cut H3 (Dl::fp++F)):=K3 e3;refine⟨⟨_,by rw[af];exact zm,rfl⟩,e3 _ _ vI,e2.trans e3,fp,zs,rs,o9 Ae gR λa ha=>?_,qA,nU,rA,zC,q_,by lia⟩;obtain⟨zs,w⟩:=hfl a (ar _ ha);rw[w,e3 _ _ w]
  ·rintro ys Y' H' ⟨_,vI,e2,fp,zs,rs,gR,qA,nU,rA,hc,q_,_⟩;rw[qQ,iY]at hc;cases hc
   rw[aX]at q_;subst q_;refine q (.ref Dl) H' (e1.trans e2) ⟨Dl::fp,?_,cF.mpr ⟨rA,qA⟩,λa ha=>?_⟩
   ·simp only[Own];exact .inr ⟨Dl,ys,res,fp,rfl,vI,rfl,rfl,gR⟩
   ·rcases aN.mp ha with z|z
    ·subst z;exact e1.free hD
    ·exact e1.free (nU a z)
 ·rw[aM hz]at g1;cases g1
def u8(hc:X.calm=rp)(hi:PIX X M tg iter fi)(C:X5 scope X.env.kindOf ys js X.N=rp)(hg:∀cl Cl s H fp,PG (L7 X (tn++ys) scope cl Cl s H fp) tg g)(zU:TgR X.K g n pt)(hm:m=.i\/m=.f)
  (tm:m=.i->∀U ds,fi U=cz ds->∀d∈ds,∀bs,pt d=cz bs->c7 bs=rp) (wA:tn.length=n)
  (ht:∀cl Cl s H fp,PTs (L7 X (tn++ys) scope cl Cl s H fp) ifs (spT X.K (V7 (.own m) n M js) ft)) (he:∀cl Cl s H fp,PX (L7 X (tn++ys) scope cl Cl s H fp) (V7 (.own m) n M js) elt fe (.new u))
  (hs:∀x,fy iter X.env x=pure x:=by intro _;rfl):PX X M (.ListComp elt [⟨tg,iter,ifs,0⟩] scope pos) (m6 fi js pt ft fe) (.new (.l u)):=by
 obtain⟨wi,pi,qi⟩:=hi;exact .mk ⟨_,b2z (te:=spE X.K (V7 (.own m) n M js) fe (.new u)) hc pi C hg ht he hs,λU Y H P F d Q S hf q=>a4y qi zU hm tm wA S hf q⟩
def t8:∀{X':Cx} {M':List Md},PTs X' [] (spT X'.K M' tT):=λ{X' M'} pins s Y H Q I ⟨U,P,F,b,S,hb,q⟩=>by
 cases hb
 exact b5Q pins s Y H Q I (q H (Same.refl _))
def a2R:(Ty.f=Ty.i)->∀(U ds:List D),fi U=cz ds->∀d∈ds,∀bs,pt d=cz bs->c7 bs=rp:=λh=>nomatch h
def a4z:(Ty.i=Ty.i)->∀(U ds:List D),iI fi U=cz ds->∀d∈ds,∀bs,pt1 d=cz bs->c7 bs=rp:=λ_ U ds h d hd bs hb=>by
 obtain⟨es,_,g1⟩:=bnd h;by_cases c:c7 es=rp
 ·rw[aE c]at g1;cases g1
  cases hb
  simp only[c7,gy];exact D9 c hd
 ·rw[aM c]at g1;cases g1
def c1v:(Ty.i=Ty.i)->∀(U ds:List D),iI fi U=cz ds->∀d∈ds,∀bs,pt2 d=cz bs->c7 bs=rp:=λ_ U ds h d hd bs hb=>by
 obtain⟨es,_,g1⟩:=bnd h;by_cases c:c7 es=rp
 ·rw[aE c]at g1;cases g1
  have:=D9 c hd
  match d,hb with
  |.tuple [a,b],hb=>
   cases hb
   simpa only [imm]using this
 ·rw[aM c]at g1;cases g1
def a5w(lo:Int)(n:Nat):c7 (E1 lo n)=rp:=by
 have:∀l:List Nat,c7 (l.map λ(k:Nat)=>aP (lo+k))=rp:=by
  intro l
  induction l with
  |nil=>simp only[cX,c7]
  |cons x l ih=>simp only[aB,c7,imm,ih,eK]
 exact this _
def a6x:(Ty.i=Ty.i)->∀(U ds:List D),iR fa U=cz ds->∀d∈ds,∀bs,pt1 d=cz bs->c7 bs=rp:=λ_ U ds h d hd bs hb=>by
 obtain⟨x,h1,g1⟩:=bnd h;obtain⟨k,h2,g2⟩:=bnd g1
 split at g2
 ·cases g2
  cases hb
  simp only[c7,gy];exact D9 (a5w _ _) hd
 ·cases g2
end
section
variable {K:ag}{H H' P:Hp}{F F':List aC}
theorem StAll.split:∀{A B:List Md} {U:List D} {Y:L2.St} {G:List aC},StAll K H F (A++B) U Y G->∃U1 U2 Y1 Y2 G1 G2,U=U1++U2/\Y=Y1++Y2/\G=G1++G2/\StAll K H F A U1 Y1 G1/\StAll K H F B U2 Y2 G2
 |[],B,U,Y,G,h=>⟨[],U,[],Y,[],G,rfl,rfl,rfl,O3,h⟩
 |m::A,B,_,_,_,h=>by
  simp only[bP,StAll]at h;obtain⟨d,U,o,Y,f,g,rfl,rfl,rfl,h1,h2⟩:=h;obtain⟨U1,U2,Y1,Y2,G1,G2,rfl,rfl,rfl,h3,h4⟩:=StAll.split h2;exact⟨d::U1,U2,o::Y1,Y2,f++G1,G2,rfl,rfl,by rw[aH],k7 h1 h3,h4⟩
theorem StAll.join:∀{A B:List Md} {U1 U2:List D} {Y1 Y2:L2.St} {G1 G2:List aC},StAll K H F A U1 Y1 G1->StAll K H F B U2 Y2 G2->StAll K H F (A++B) (U1++U2) (Y1++Y2) (G1++G2)
 |[],B,_,_,_,_,_,_,h,q=>by
  simp only[StAll]at h;obtain⟨rfl,rfl,rfl⟩:=h;exact q
 |m::A,B,_,_,_,_,_,_,h,q=>by
  simp only[StAll]at h;obtain⟨d,U,o,Y,f,g,rfl,rfl,rfl,h1,h2⟩:=h;rw[aH];exact k7 h1 (StAll.join h2 q)
def a6y{α:Type}{a b c d:List α}(h:a++b=c++d)(hl:a.length=c.length):a=c/\b=d:=List.append_inj h hl
def StAll.splitAt{A B:List Md}{U1 U2:List D}{Y1 Y2:L2.St}(h:StAll K H F (A++B) (U1++U2) (Y1++Y2) G)(hU:U1.length=A.length)(hY:Y1.length=A.length):∃G1 G2,G=G1++G2/\StAll K H F A U1 Y1 G1/\StAll K H F B U2 Y2 G2:=by
 obtain⟨r1,r2,s1,s2,G1,G2,e1,e2,e3,h1,h2⟩:=h.split;obtain⟨l1,l2⟩:=h1.len;obtain⟨rfl,rfl⟩:=a6y e1 (by lia);obtain⟨rfl,rfl⟩:=a6y e2 (by lia);exact⟨G1,G2,e3,h1,h2⟩
theorem a0J:∀{us:List Ty} {vs:List V} {ds:List D} {G:List aC},StAll K H F (us.map Md.own) ds (vs.map cz) G->OwnTs K H F us vs ds G
 |[],vs,ds,G,h=>by
  simp only[cX,StAll]at h;obtain⟨rfl,e,rfl⟩:=h;have:vs=[]:=by simpa using e
  subst this;simp only[OwnTs];exact⟨trivial,trivial,trivial⟩
 |u::us,vs,ds,G,h=>by
  simp only[aB,StAll]at h;obtain⟨d,U,o,Y,f,g,rfl,e,rfl,⟨v,rfl,h1⟩,h2⟩:=h;cases vs with
  |nil=>simp at e
  |cons v' vs=>
   simp only[aB,gu,oE]at e;obtain⟨rfl,rfl⟩:=e;simp only[OwnTs];exact⟨v',vs,d,U,f,g,rfl,rfl,rfl,h1,a0J h2⟩
end
def Pend(K:ag)(Mp:List Md)(Up:List D)(Yp:L2.St)(M:List Md)(U:List D)(Y:L2.St)(H P:Hp)(F:List aC):Prop:=
 Up.length=Mp.length/\Yp.length=Mp.length/\StR K (Mp++M) (Up++U) (Yp++Y) H P F
section
variable {K:ag}{Mp M:List Md}{Up U:List D}{Yp Y:L2.St}{H H' P:Hp}{F:List aC}
def Pend.e(h:Pend K Mp Up Yp M U Y H P F):StE K M U Y H P F:=by
 obtain⟨l1,l2,S⟩:=h;obtain⟨G,h1,h2,h3⟩:=S.all;obtain⟨G1,G2,rfl,_,h4⟩:=h1.splitAt l1 l2;exact⟨⟨G2,h4,λa ha=>h3 a (aj _ ha)⟩,S.lst,S.prot⟩
theorem Pend.grow(h:Pend K Mp Up Yp M U Y H P F)(e:Same H H'):Pend K Mp Up Yp M U Y H' P F:=⟨h.1,h.2.1,h.2.2.grow e⟩
def Pend.new(h:Pend K Mp Up Yp M U Y H P F)(e:Same H H')(o:Own K H' (fp++F) u v d fp)(nd:fp.Nodup)(fr:∀a∈fp,H a=p4):Pend K (Mp++[.own u]) (Up++[d]) (Yp++[cz v]) M U Y H' P (fp++F):=by
 obtain⟨l1,l2,S⟩:=h;refine⟨by simp[l1],by simp[l2],?_⟩;have S1:=S.more e fr (o.lst u);obtain⟨G,h1,h2,h3⟩:=S.all;obtain⟨G1,G2,rfl,h4,h5⟩:=h1.splitAt l1 l2;have hc:Same (cut H F) (cut H' (fp++F)):=a0D e fr;have k:∀a∈G1++G2,H' a=H a:=λa ha=>S.toE.keep e a (h3 a ha)
 have q:=(h4.frame hc λa ha=>k a (ak _ ha)).join ((k7 (m:=.own u) (d:=d) (o:=cz v) (f:=fp) ⟨v,rfl,o⟩ (h5.frame hc λa ha=>k a (aj _ ha))));refine⟨⟨G1++(fp++G2),by simpa using q,a1i h2 nd λa ha z=>?_,λa ha=>?_⟩,S1.lst,S1.prot⟩
 ·obtain⟨ys,w⟩:=S.lst a (h3 a z);rw[fr a ha]at w;cases w
 ·rcases a5n ha with z|z
  ·exact ak _ z
  ·exact aj _ (h3 a z)
def Pend.move(h:Pend K Mp Up Yp M U Y H P F)(hm:M[i]?=cz (.own u)):∃v,Y[i]?=cz (cz v)/\Pend K (Mp++[.own u]) (Up++[U.getD i .none]) (Yp++[cz v]) (M.set i .dead) U Y H P F:=by
 obtain⟨l1,l2,S⟩:=h;obtain⟨G,h1,h2,h3⟩:=S.all;obtain⟨G1,G2,rfl,h4,h5⟩:=h1.splitAt l1 l2;obtain⟨d,o,f,pre,post,e1,e2,⟨v,rfl,e3⟩,rfl,e5⟩:=h5.at_ hm;have q:=e5 H F .dead d (cz v) [] (λ_ _=>rfl) (Same.refl _) rfl;rw[set_same e1,set_same e2]at q;refine⟨v,e2,by simp[l1],by simp[l2],⟨⟨G1++(f++(pre++([]++post))),?_,?_,λa ha=>h3 a ?_⟩,S.lst,S.prot⟩⟩
 ·have:=h4.join (k7 (m:=.own u) (d:=d) (o:=cz v) (f:=f) ⟨v,rfl,e3⟩ q);rw[C8 e1];simpa using this
 ·rw[bT];refine (List.Perm.nodup_iff ?_).mp h2;refine mj G1 ?_;exact List.perm_append_comm_assoc pre f post
 ·simp only[ay,bT]at ha ⊢;rcases ha with z|z|z|z
  ·exact .inl z
  ·exact .inr (.inr (.inl z))
  ·exact .inr (.inl z)
  ·exact .inr (.inr (.inr z))
end
def PMX(X:Cx)(M:List Md)(e:Expr)(f:EvE)(u:Ty)(M1:List Md):Prop:=
 ∃t,PE X e t/\∀(Mp:List Md) (Up:List D) (Yp:L2.St) (U:List D) (Y:L2.St) (H P:Hp) (F:List aC) (d:D) (Q:VK),Pend X.K Mp Up Yp M U Y H P F->f U=cz d->
  (∀v H' F',Same H H'->Pend X.K (Mp++[.own u]) (Up++[d]) (Yp++[cz v]) M1 U Y H' P F'->Q v H')->t Y H Q
def PMA(X:Cx)(M:List Md)(es:List Expr)(f:EvA)(us:List Ty)(M1:List Md):Prop:=
 ∃t,PA X es t/\∀(Mp:List Md) (Up:List D) (Yp:L2.St) (U:List D) (Y:L2.St) (H P:Hp) (F:List aC) (ds:List D) (Q:List V->Hp->Prop),Pend X.K Mp Up Yp M U Y H P F->f U=cz ds->
  (∀vs H' F',vs.length=us.length->ds.length=us.length->Same H H'->Pend X.K (Mp++us.map .own) (Up++ds) (Yp++vs.map cz) M1 U Y H' P F'->Q vs H')->t Y H Q
section
variable {X:Cx}{M M1 M2:List Md}{e:Expr}{es:List Expr}{f:EvE}{fa:EvA}{u:Ty}{us:List Ty}{pos:fV}
def a8(h:PX X M e f (.new u)):PMX X M e f u M:=by
 obtain⟨t,p,q⟩:=h.out;refine⟨t,p,λMp Up Yp U Y H P F d Q S hf k=>q U Y H P F d Q S.e hf λv H' e ⟨fp,o,nd,fr⟩=>k v H' _ e (S.new e o nd fr)⟩
def B9(i:Nat)(hN:X.N[i]?=cz x:=by rfl)(hv:autoParam (NmV X x) ZY._auto_1)(hm:M[i]?=cz (.own u):=by rfl):PMX X M (.Name x pos) (a4 i) u (M.set i .dead):=by
 refine⟨_,C6 hN hv.1 hv.2.1 hv.2.2,λMp Up Yp U Y H P F d Q S hf k=>?_⟩;cases hf
 obtain⟨v,e,S'⟩:=S.move hm;exact⟨v,e,k v H F (Same.refl _) S'⟩
def b6d:PMA X M [] b8 [] M:=⟨_,n8,λMp Up Yp U Y H P F ds Q S hf k=>by
 cases hf
 exact k [] H F rfl rfl (Same.refl _) (by simpa using S)⟩
def a6z(h:PMX X M e f u M1)(hr:PMA X M1 es fa us M2)(hs:au (e::es) X.env=(xn,cI e X.env)::au es X.env:=by rfl):PMA X M (e::es) (a6 f fa) (u::us) M2:=by
 obtain⟨t,p,q⟩:=h;obtain⟨tr,pr,qr⟩:=hr;refine⟨_,k6 p pr hs,λMp Up Yp U Y H P F ds Q S hf k=>?_⟩;obtain⟨x,h1,g1⟩:=bnd hf;obtain⟨xs,h2,g2⟩:=bnd g1;cases g2
 refine q Mp Up Yp U Y H P F x _ S h1 λv H1 F1 e1 S1=>qr _ _ _ U Y H1 P F1 xs _ S1 h2 λvs H2 F2 l1 l2 e2 S2=>k (v::vs) H2 F2 (by simp[l1]) (by simp[l2]) (e1.trans e2) ?_
 simpa using S2
def Pend.pack{us:List Ty}{vs:List V}(h:Pend K (Mp++us.map .own) (Up++ds) (Yp++vs.map cz) M U Y H P F)
  (lp:Up.length=Mp.length) (lq:Yp.length=Mp.length) (l1:vs.length=us.length) (l2:ds.length=us.length) (hp:H p=p4)
  (mk:∀G,OwnTs K H F us vs ds G->G.Nodup->(∀a∈G,a∈F)->∃tK F',(∀a,a∈F'↔a∈tK\/a∈F)/\(∀a∈tK,a=p\/a∈G)/\tK.Nodup/\Own K (upd H p o) F' u (.ref p) d tK/\(p∈tK->∃ys,o=.lst ys)) :
  ∃F',Pend K (Mp++[.own u]) (Up++[d]) (Yp++[cz (.ref p)]) M U Y (upd H p o) P F':=by
 obtain⟨_,_,S⟩:=h;obtain⟨G,h1,h2,h3⟩:=S.all;obtain⟨G1,G2,rfl,h4,h5⟩:=h1.splitAt (by simp[lp,l2]) (by simp[lq,l1]);obtain⟨G3,G4,rfl,h6,h7⟩:=h4.splitAt lp lq;have DN:G4.Nodup:=by rw[bV]at h2;exact (bV.mp h2.1).2.1
 obtain⟨tK,F',vH,zW,qA,own,gK⟩:=mk G4 (a0J h7) DN λa ha=>h3 a (ak _ (aj _ ha))
 have zB:p∉F:=λz=>by obtain⟨ys,w⟩:=S.lst p z;rw[hp]at w;cases w
 have hc:Same (cut H F) (cut (upd H p o) F'):=λa o' ha=>by
  obtain⟨n1,n2⟩:=m9 ha;have i_:a≠p:=λz=>by rw[z,hp]at n2;cases n2
  refine i7 (λz=>?_) (by rw[c6 i_];exact n2);rcases (vH a).mp z with w|w
  ·rcases zW a w with y|y
   ·exact i_ y
   ·exact n1 (h3 a (ak _ (aj _ y)))
  ·exact n1 w
 have k:∀a∈F,upd H p o a=H a:=λa ha=>c6 λz=>zB (z▸ha)
 have q:=(h6.frame hc λa ha=>k a (h3 a (ak _ (ak _ ha)))).join (k7 (m:=.own u) (d:=d) (o:=cz (.ref p)) (f:=tK) ⟨_,rfl,own⟩ (h5.frame hc λa ha=>k a (h3 a (aj _ ha))));refine⟨F',by simp[lp],by simp[lq],⟨⟨G3++(tK++G2),by simpa using q,a1i ?_ qA λa ha z=>?_,λa ha=>?_⟩,λa ha=>?_,S.prot.trans hc⟩⟩
 ·rw[aH]at h2;exact O4 h2
 ·rcases zW a ha with w|w
  ·subst w;exact zB (h3 a (by
    rcases ay.mp z with y|y
    ·exact ak _ (ak _ y)
    ·exact aj _ y))
  ·rw[aH]at h2;exact a1j h2 a w z
 ·rcases a5n ha with z|z
  ·exact (vH a).mpr (.inl z)
  ·refine (vH a).mpr (.inr (h3 a ?_));rcases ay.mp z with y|y
   ·exact ak _ (ak _ y)
   ·exact aj _ y
 ·rcases (vH a).mp ha with z|z
  ·rcases zW a z with w|w
   ·subst w;obtain⟨ys,rfl⟩:=gK z;exact⟨⟨.lst ys,trivial⟩,g8⟩
   ·have lF:=h3 a (ak _ (aj _ w));obtain⟨ys,y⟩:=S.lst a lF;exact⟨ys,by rw[k a lF];exact y⟩
  ·obtain⟨ys,y⟩:=S.lst a z;exact⟨ys,by rw[k a z];exact y⟩
def b6e{j}(h:PMA X M es fa us M1)(hn:us.length<=1000:=by decide):PMX X M (.Tuple es j pos) (a0F fa) (.tp us) M1:=by
 obtain⟨t,p,q⟩:=h;refine⟨_,a7I p,λMp Up Yp U Y H P F d Q S hf k=>?_⟩;obtain⟨ds,h1,g1⟩:=bnd hf;cases g1
 refine q Mp Up Yp U Y H P F ds _ S h1 λvs H1 F1 l1 l2 e1 S1=>⟨by rw[l1];exact eJ (X4 hn),λx hx=>?_⟩
 have zi:x∉F1:=λz=>by obtain⟨ys,w⟩:=S1.2.2.lst x z;rw[hx]at w;cases w
 obtain⟨F2,S2⟩:=S1.pack (o:=.tup vs) (u:=.tp us) (d:=.tuple ds) S.1 S.2.1 l1 l2 hx λG o nd sub=>by
  refine⟨G,F1,λa=>⟨λz=>.inr z,λz=>z.elim (sub a) id⟩,λa ha=>.inr ha,nd,?_,λz=>absurd (sub x z) zi⟩;simp only[Own];refine .inr ⟨x,vs,ds,rfl,g8,zi,rfl,o.frame (K3 (j8 hx _)) us λa ha=>c6 λz=>zi (z▸sub a ha)⟩
 exact k _ _ F2 (e1.trans (j8 hx _)) S2
end
def dAt:Ty->D->List Nat->Option (Ty×D)
 |u,d,[]=>cz (u,d)
 |.l u,.list ds,j::p=>(ds[j]?).bind λd=>dAt u d p
 |.tp us,.tuple ds,j::p=>(us[j]?).bind λu=>(ds[j]?).bind λd=>dAt u d p
 |_,_,_=>p4
def a2q:D->List Nat->D->D
 |_,[],e=>e
 |.list ds,j::p,e=>.list (ds.set j (a2q (ds.getD j .none) p e))
 |.tuple ds,j::p,e=>.tuple (ds.set j (a2q (ds.getD j .none) p e))
 |d,_,_=>d
def wk(H:Hp):V->List Nat->V->Prop
 |v,[],w=>w=v
 |v,j::p,w=>∃a xs v1,v=.ref a/\(H a=cz (.lst xs)\/H a=cz (.tup xs))/\xs[j]?=cz v1/\wk H v1 p w
theorem b2X(e:Same H H'):∀{p:List Nat} {v w:V},wk H v p w->wk H' v p w
 |[],_,_,h=>h
 |j::p,_,_,h=>by
  obtain⟨a,xs,v1,h1,h2,h3,h4⟩:=h;exact⟨a,xs,v1,h1,h2.imp (e _ _) (e _ _),h3,b2X e h4⟩
section
variable {K:ag}{H H':Hp}{F F':List aC}
theorem ListAll.zip:∀{ds:List D} {xs:List V} {fp:List aC} {j:Nat} {d:D},ListAll (Own K H F u) xs ds fp->ds[j]?=cz d->
  ∃v f pre post,xs[j]?=cz v/\Own K H F u v d f/\fp=pre++(f++post)/\
   ∀(H':Hp) (F':List aC) (v':V) (d':D) (f':List aC),(∀a∈pre++post,H' a=H a)->Same (cut H F) (cut H' F')->Own K H' F' u v' d' f'->ListAll (Own K H' F' u) (xs.set j v') (ds.set j d') (pre++(f'++post))
 |[],_,_,j,d,_,e=>by simp at e
 |d0::ds,_,_,0,d,h,e=>by
  obtain⟨v,r,f,g,rfl,rfl,h1,h2⟩:=h.cons_inv;have:d0=d:=by simpa using e
  subst this;refine⟨v,f,[],g,rfl,h1,rfl,λH' F' v' d' f' k e' o=>?_⟩;show ListAll (Own K H' F' u) (v'::r) (d'::ds) (f'++g);exact n5 o (o9 e' h2 k)
 |d0::ds,_,_,j+1,d,h,e=>by
  obtain⟨v,r,f,g,rfl,rfl,h1,h2⟩:=h.cons_inv;obtain⟨w,f',pre,post,e1,e2,e3,e4⟩:=ListAll.zip (j:=j) h2 (by simpa using e);subst e3;refine⟨w,f',f++pre,post,by simpa using e1,e2,by rw[aH],λH' F' v' d' g' k e' o=>?_⟩;rw[aH];refine n5 (h1.frame e' u λa ha=>k a ?_) (e4 H' F' v' d' g' (λa ha=>k a ?_) e' o)
  ·rw[aH];exact ak _ ha
  ·rw[aH];exact aj _ ha
theorem OwnTs.zip:∀{us:List Ty} {ds:List D} {xs:List V} {fp:List aC} {j:Nat} {u:Ty} {d:D},OwnTs K H F us xs ds fp->us[j]?=cz u->ds[j]?=cz d->
  ∃v f pre post,xs[j]?=cz v/\Own K H F u v d f/\fp=pre++(f++post)/\
   ∀(H':Hp) (F':List aC) (d':D) (f':List aC),(∀a∈pre++post,H' a=H a)->Same (cut H F) (cut H' F')->Own K H' F' u v d' f'->OwnTs K H' F' us xs (ds.set j d') (pre++(f'++post))
 |[],_,_,_,j,u,d,_,e,_=>by simp at e
 |u0::us,_,_,_,0,u,d,h,e,e'=>by
  simp only[OwnTs]at h;obtain⟨v,r,d0,ds,f,g,rfl,rfl,rfl,h1,h2⟩:=h;have:u0=u:=by simpa using e
  subst this;have:d0=d:=by simpa using e'
  subst this;refine⟨v,f,[],g,rfl,h1,rfl,λH' F' d' f' k e' o=>?_⟩;show OwnTs K H' F' (u0::us) (v::r) (d'::ds) (f'++g);simp only[OwnTs];exact⟨v,r,d',ds,f',g,rfl,rfl,rfl,o,h2.frame e' us k⟩
 |u0::us,_,_,_,j+1,u,d,h,e,e'=>by
  simp only[OwnTs]at h;obtain⟨v,r,d0,ds,f,g,rfl,rfl,rfl,h1,h2⟩:=h;obtain⟨w,f',pre,post,e1,e2,e3,e4⟩:=OwnTs.zip (j:=j) h2 (by simpa using e) (by simpa using e');subst e3;refine⟨w,f',f++pre,post,by simpa using e1,e2,by rw[aH],λH' F' d' g' k e' o=>?_⟩;rw[aH];show OwnTs K H' F' (u0::us) (v::r) (d0::ds.set j d') (f++(pre++(g'++post)));simp only[OwnTs];refine⟨v,r,d0,_,f,_,rfl,rfl,rfl,h1.frame e' u0 λa ha=>k a ?_,e4 H' F' d' g' (λa ha=>k a ?_) e' o⟩
  ·rw[aH];exact ak _ ha
  ·rw[aH];exact aj _ ha
theorem Own.path:∀(p:List Nat) {u t:Ty} {v w:V} {d:D} {fp:List aC} {ds:List D},Own K H F u v d fp->dAt u d p=cz (.l t,.list ds)->wk H v p w->
  ∃b xs fs pre post,w=.ref b/\H b=cz (.lst xs)/\fp=pre++((b::fs)++post)/\ListAll (Own K H F t) xs ds fs/\
   ∀(H':Hp) (F':List aC) (lA:List V) (kj:List D) (mz:List aC),(∀a∈pre++post,H' a=H a)->Same (cut H F) (cut H' F')->H' b=cz (.lst lA)->ListAll (Own K H' F' t) lA kj mz->
    Own K H' F' u v (a2q d p (.list kj)) (pre++((b::mz)++post))
 |[],u,t,v,w,d,fp,ds,h,hd,hw=>by
  have jO:cz (u,d)=cz (.l t,.list ds):=hd;cases jO
  have Dm:w=v:=hw;subst Dm;simp only[Own]at h;rcases h with⟨_,hi,_⟩|⟨a,xs,kj,fs,rfl,h1,h2,rfl,h3⟩
  ·simp only[imm]at hi;cases hi
  ·cases h2
   refine⟨a,xs,fs,[],[],rfl,h1,by simp,h3,λH' F' lA kj mz _ _ k o=>?_⟩;simp only[Own,a2q,bT,aX];exact .inr ⟨a,lA,kj,mz,rfl,k,rfl,rfl,o⟩
 |j::p,u,t,v,w,d,fp,ds,h,hd,hw=>by
  obtain⟨a0,vS,v1,rfl,vf,vz,hw⟩:=hw;cases u with
  |l u=>
   cases d with
   |list es=>
    have jO:(es[j]?).bind (λd=>dAt u d p)=cz (.l t,.list ds):=hd;obtain⟨d1,g1,g2⟩:=bnd jO;simp only[Own]at h;rcases h with⟨_,hi,_⟩|⟨a,xs,es',fs,e0,h1,h2,rfl,h3⟩
    ·simp only[imm]at hi;cases hi
    ·cases h2
     cases e0
     have wo:vS=xs:=by rcases vf with z|z<;>rw[h1]at z<;>cases z;rfl
     subst wo;obtain⟨v2,f,pre,post,z1,z2,rfl,z4⟩:=h3.zip g1;rw[vz]at z1;cases z1
     obtain⟨b,ys,mz,nD,kY,rfl,q2,rfl,q4,q5⟩:=Own.path p z2 g2 hw;refine⟨b,ys,mz,a0::(pre++nD),kY++post,rfl,q2,by simp,q4,λH' F' lA kj Ap k e' hb o=>?_⟩;have k1:∀a∈pre++post,H' a=H a:=λa ha=>k a (by simp only[ay,aN]at ha ⊢;rcases ha with z|z;exact .inl (.inr (.inl z));exact .inr (.inr z))
     have k2:∀a∈nD++kY,H' a=H a:=λa ha=>k a (by simp only[ay,aN]at ha ⊢;rcases ha with z|z;exact .inl (.inr (.inr z));exact .inr (.inl z))
     have o1:=q5 H' F' lA kj Ap k2 e' hb o;have o2:=z4 H' F' _ _ _ k1 e' o1;rw[set_same vz]at o2;show Own K H' F' (.l u) (.ref a0) (.list (es.set j (a2q (es.getD j .none) p (.list kj)))) _;rw[C8 g1];simp only[Own];refine .inr ⟨a0,vS,_,_,rfl,(k a0 (by simp)).trans h1,rfl,?_,o2⟩;simp
   |_=>cases hd
  |tp us=>
   cases d with
   |tuple es=>
    have jO:(us[j]?).bind (λu=>(es[j]?).bind λd=>dAt u d p)=cz (.l t,.list ds):=hd;obtain⟨u1,g0,Fj⟩:=bnd jO;obtain⟨d1,g1,g2⟩:=bnd Fj;simp only[Own]at h;rcases h with⟨_,hi,_⟩|⟨a,xs,es',e0,h1,h0,h2,h3⟩
    ·exact (hi.2 _ rfl).elim
    cases h2
    cases e0
    have wo:vS=xs:=by rcases vf with z|z<;>rw[h1]at z<;>cases z;rfl
    subst wo;obtain⟨v2,f,pre,post,z1,z2,rfl,z4⟩:=h3.zip g0 g1;rw[vz]at z1;cases z1
    obtain⟨b,ys,mz,nD,kY,rfl,q2,rfl,q4,q5⟩:=Own.path p z2 g2 hw;refine⟨b,ys,mz,pre++nD,kY++post,rfl,q2,by simp,q4,λH' F' lA kj Ap k e' hb o=>?_⟩;have k1:∀a∈pre++post,H' a=H a:=λa ha=>k a (by simp only[ay]at ha ⊢;rcases ha with z|z;exact .inl (.inl z);exact .inr (.inr z))
    have k2:∀a∈nD++kY,H' a=H a:=λa ha=>k a (by simp only[ay]at ha ⊢;rcases ha with z|z;exact .inl (.inr z);exact .inr (.inl z))
    have o1:=q5 H' F' lA kj Ap k2 e' hb o;have o2:=z4 H' F' _ _ k1 e' o1;show Own K H' F' (.tp us) (.ref a0) (.tuple (es.set j (a2q (es.getD j .none) p (.list kj)))) _;rw[C8 g1];obtain⟨n1,n2⟩:=m9 (e' a0 _ (i7 h0 h1));simp only[Own];refine .inr ⟨a0,vS,_,rfl,n2,n1,rfl,?_⟩;simpa using o2
   |_=>cases hd
  |i=>cases hd
  |f=>cases hd
  |d kt u=>cases hd
def a0K{N O:List aC}(h:O.Nodup)(k:∀a,N.count a<=O.count a):N.Nodup:=jo.mpr λa=>cC (k a) (jo.mp h a)
def Pend.put(h:Pend K ([]++[.own t]) ([]++[d]) ([]++[cz v]) M U Y H P F)(hm:M[i]?=cz (.own u))(h0:Y[i]?=cz (cz v0))(hd:dAt u (U.getD i .none) p=cz (.l t,.list ds))(hw:wk H v0 p w) :
  ∃b xs,w=.ref b/\H b=cz (.lst xs)/\xs.length=ds.length/\StR K M (U.set i (a2q (U.getD i .none) p (.list (ds++[d])))) Y (upd H b (.lst (xs++[v]))) P F/\
   ∀j,j<ds.length->StR K M (U.set i (a2q (U.getD i .none) p (.list (ds.set j d)))) Y (upd H b (.lst (xs.set j v))) P F:=by
 obtain⟨_,_,S⟩:=h;obtain⟨G,h1,h2,h3⟩:=S.all;have nV:StAll K H F (.own t::M) (d::U) (cz v::Y) G:=by simpa using h1
 simp only[StAll]at nV;obtain⟨d',U',o',Y',fv,G2,e1,e2,rfl,⟨v',e3,ov⟩,h5⟩:=nV;cases e1
 cases e2
 cases e3
 obtain⟨dd,oo,f,pre,post,q1,q2,⟨v2,rfl,q3⟩,rfl,q5⟩:=h5.at_ hm;rw[h0]at q2;cases q2
 rw[C8 q1]at hd;obtain⟨b,xs,fs,nD,kY,rfl,r2,rfl,r4,r5⟩:=q3.path p hd hw;have EN:b∈F:=h3 b (by simp);have kI:∀o,Same (cut H F) (cut (upd H b o) F):=λo a o' ha=>by
  obtain⟨n1,n2⟩:=m9 ha;exact i7 n1 (by rw[c6 (show a≠b from λz=>n1 (z▸EN))];exact n2)
 have iP:∀a,a≠b\/(pre++post).count a=0/\(nD++kY).count a=0/\fs.count a=0/\fv.count a=0:=λa=>by
  by_cases e:a=b
  ·subst e;have:=jo.mp h2 a;simp only[cU,bP,xR]at this ⊢;exact .inr ⟨by lia,by lia,by lia,by lia⟩
  ·exact .inl e
 have kk:∀(l:List aC) (o:HO),(∀a,a=b->l.count a=0)->∀a∈l,upd H b o a=H a:=λl o hc a ha=>c6 λz=>by
  have:=hc a z;rw[AJ]at this;exact this ha
 have c1:∀a,a=b->(pre++post).count a=0:=λa e=>((iP a).resolve_left (λn=>n e)).1
 have c2:∀a,a=b->(nD++kY).count a=0:=λa e=>((iP a).resolve_left (λn=>n e)).2.1
 have c3:∀a,a=b->fs.count a=0:=λa e=>((iP a).resolve_left (λn=>n e)).2.2.1
 have c4:∀a,a=b->fv.count a=0:=λa e=>((iP a).resolve_left (λn=>n e)).2.2.2
 have fin:∀(lA:List V) (kj:List D) (mz:List aC),ListAll (Own K (upd H b (.lst lA)) F t) lA kj mz->(∀a,mz.count a<=fs.count a+fv.count a)->StR K M (U.set i (a2q dd p (.list kj))) Y (upd H b (.lst lA)) P F:=λlA kj mz ha pq=>by
  have o1:=r5 (upd H b (.lst lA)) F lA kj mz (kk _ _ c2) (kI _) g8 ha;have q:=q5 (upd H b (.lst lA)) F (.own u) (a2q dd p (.list kj)) (cz v0) _ (kk _ _ c1) (kI _) ⟨v0,rfl,o1⟩;rw[set_same (l:=Y) h0,set_same (l:=M) hm]at q;refine⟨⟨_,q,a0K h2 λa=>?_,λa ha=>?_⟩,λa ha=>?_,S.prot.trans (kI _)⟩
  ·have:=pq a;simp only[cU,bP,jC];lia
  ·have hc:0<(fv++(pre++(nD++(b::fs++kY)++post))).count a:=by
    have h0:=kh.mpr ha;have:=pq a;simp only[cU,bP,jC]at h0 ⊢;lia
   exact h3 a (kh.mp hc)
  ·by_cases e:a=b
   ·subst e;exact⟨⟨.lst lA,trivial⟩,g8⟩
   ·obtain⟨ys,y⟩:=S.lst a ha;exact⟨ys,by rw[c6 e];exact y⟩
 rw[C8 q1];refine⟨b,xs,rfl,r2,r4.length,fin (xs++[v]) (ds++[d]) (fs++fv) ?_ λa=>by rw[cU];exact az _,λj hj=>?_⟩
 ·refine (o9 (kI _) r4 (kk _ _ c3)).append ?_;have:=n5 (R:=Own K (upd H b (.lst (xs++[v]))) F t) (ov.frame (kI _) t (kk _ _ c4)) p7
  rwa[aX]at this
 ·obtain⟨v3,f3,a1,a2,s1,s2,rfl,s4⟩:=r4.zip (ab hj);have c5:∀a,a=b->(a1++a2).count a=0:=λa e=>by have:=c3 a e;simp only[cU]at this ⊢;lia
  refine fin (xs.set j v) (ds.set j d) (a1++(fv++a2)) (s4 _ F v d fv (kk _ _ c5) (kI _) (ov.frame (kI _) t (kk _ _ c4))) λa=>?_
  simp only[cU];lia
end
inductive Out where
 |nx (U:List D)|rt (d:D)|bk (U:List D)|ct (U:List D)
abbrev EvS:=List D->Option Out
def EndsOk(K:ag)(P:Hp)(u:Ty)(ML M:List Md)(D:Ends)(o:Out):Prop:=
 match o with
 |.nx U=>∀Y H F,StR K M U Y H P F->D.nx Y H
 |.rt d=>∀v H fp,Own K H fp u v d fp->fp.Nodup->(∀a∈fp,P a=p4)->Same P H->D.rt v H
 |.bk U=>∀Y H F,StR K ML U Y H P F->D.bk Y H
 |.ct U=>∀Y H F,StR K ML U Y H P F->D.ct Y H
def spS(K:ag)(u:Ty)(ML M:List Md)(g:EvS)(M':List Md):TS:=λD Y H=>∃(U:List VS.D) (P:Hp) (F:List aC) (o:Out),StR K M U Y H P F/\g U=cz o/\EndsOk K P u ML M' D o
def PSX(X:Cx)(u:Ty)(ML M:List Md)(st:iO)(g:EvS)(M':List Md):Prop:=PS X st (spS X.K u ML M g M')
def PSsX(X:Cx)(u:Ty)(ML M:List Md)(oU:List iO)(g:EvS)(M':List Md):Prop:=PSs X oU (spS X.K u ML M g M')
section
variable {X:Cx}{u:Ty}{ML M M':List Md}{st:iO}{oU:List iO}{g:EvS}
def PSX.mk(h:∃t,PS X st t/\∀(D:Ends) (U:List VS.D) (Y:L2.St) (H P:Hp) (F:List aC) (o:Out),StR X.K M U Y H P F->g U=cz o->EndsOk X.K P u ML M' D o->t D Y H):PSX X u ML M st g M':=by
 obtain⟨t,p,q⟩:=h;exact λpins s Y H D I ⟨U,P,F,o,S,hg,k⟩=>p pins s Y H D I (q D U Y H P F o S hg k)
def PSX.out(h:PSX X u ML M st g M'):∃t,PS X st t/\∀(D:Ends) (U:List VS.D) (Y:L2.St) (H P:Hp) (F:List aC) (o:Out),StR X.K M U Y H P F->g U=cz o->EndsOk X.K P u ML M' D o->t D Y H:=
 ⟨_,h,λ_ U _ _ P F o S hg k=>⟨U,P,F,o,S,hg,k⟩⟩
def PSsX.mk(h:∃t,PSs X oU t/\∀(D:Ends) (U:List VS.D) (Y:L2.St) (H P:Hp) (F:List aC) (o:Out),StR X.K M U Y H P F->g U=cz o->EndsOk X.K P u ML M' D o->t D Y H):PSsX X u ML M oU g M':=by
 obtain⟨t,p,q⟩:=h;exact λpins s Y H D I ⟨U,P,F,o,S,hg,k⟩=>p pins s Y H D I (q D U Y H P F o S hg k)
def PSsX.out(h:PSsX X u ML M oU g M'):∃t,PSs X oU t/\∀(D:Ends) (U:List VS.D) (Y:L2.St) (H P:Hp) (F:List aC) (o:Out),StR X.K M U Y H P F->g U=cz o->EndsOk X.K P u ML M' D o->t D Y H:=
 ⟨_,h,λ_ U _ _ P F o S hg k=>⟨U,P,F,o,S,hg,k⟩⟩
end
def Wk(M M1:List Md):Prop:=∀(K:ag) (U:List D) (Y:L2.St) (H P:Hp) (F:List aC),StR K M U Y H P F->∃F',StR K M1 U Y H P F'
def l8:Wk M M:=λ_ _ _ _ _ F S=>⟨F,S⟩
def Wk.trans(a:Wk M M1)(b:Wk M1 M2):Wk M M2:=λK U Y H P F S=>by
 obtain⟨F1,S1⟩:=a K U Y H P F S;exact b K U Y H P F1 S1
def l9{M:List Md}(i:Nat)(h:M[i]?=cz m:=by rfl):Wk M (M.set i .dead):=λK U Y H P F S=>⟨F,S.dead h⟩
def V8{M:List Md}(i:Nat)(h:M[i]?=cz (.own u):=by rfl):Wk M (M.set i (.own .f)):=λK U Y H P F S=>S.freeze h
def E3:EvS:=λU=>cz (.nx U)
noncomputable def f7(a b:EvS):EvS:=λU=>(a U).bind λo=>match o with
 |.nx U'=>b U'
 |o=>cz o
noncomputable def i5(i:Nat)(f:EvE):EvS:=λU=>(f U).bind λd=>cz (.nx (U.set i d))
def asP:D->Option (D×D)
 |.tuple [a,b]=>cz (a,b)
 |_=>p4
def b7Z(i j:Nat)(f:EvE):EvS:=λU=>(f U).bind λd=>(asP d).bind λp=>cz (.nx ((U.set i p.1).set j p.2))
noncomputable def v5(f:EvE):EvS:=λU=>(f U).bind λd=>cz (.rt d)
def sEx(f:EvE):EvS:=λU=>(f U).bind λ_=>cz (.nx U)
noncomputable def sIf(c:EvT)(a b:EvS):EvS:=λU=>(c U).bind λk=>if k then a U else b U
def sNo:EvS:=λ_=>p4
def U7(set:List D->D->Option (List D))(g:EvS):List D->List D->Option Out
 |[],U=>cz (.nx U)
 |d::ds,U=>(set U d).bind λU1=>(g U1).bind λo=>match o with
  |.nx U'=>U7 set g ds U'
  |.ct U'=>U7 set g ds U'
  |.bk U'=>cz (.nx U')
  |.rt d=>cz (.rt d)
def p6(i:Nat):List D->D->Option (List D):=λU d=>cz (U.set i d)
def a2S(i j:Nat):List D->D->Option (List D):=λU d=>(asP d).bind λp=>cz ((U.set i p.1).set j p.2)
noncomputable def y6(fi:EvA)(set:List D->D->Option (List D))(g:EvS):EvS:=λU=>(fi U).bind λds=>U7 set g ds U
def whL(c:EvT)(g:EvS):Nat->List D->Option Out
 |0,_=>p4
 |n+1,U=>(c U).bind λk=>if k then (g U).bind λo=>match o with
  |.nx U'=>whL c g n U'
  |.ct U'=>whL c g n U'
  |.bk U'=>cz (.nx U')
  |.rt d=>cz (.rt d)
  else cz (.nx U)
def sWh(n:List D->Nat)(c:EvT)(g:EvS):EvS:=λU=>whL c g (n U) U
section
variable {K:ag}{M M1:List Md}{U:List D}{Y:L2.St}{H P:Hp}{F:List aC}
def StR.pend(S:StR K M U Y H P F):Pend K [] [] [] M U Y H P F:=⟨rfl,rfl,S⟩
def Pend.store(h:Pend K (Mp++[.own u]) (Up++[d]) (Yp++[cz v]) M U Y H P F)(lp:Up.length=Mp.length)(lq:Yp.length=Mp.length)(hm:M[i]?=cz m) :
  Pend K Mp Up Yp (M.set i (.own u)) (U.set i d) (Y.set i (cz v)) H P F:=by
 obtain⟨_,_,S⟩:=h;obtain⟨G,h1,h2,h3⟩:=S.all;obtain⟨G1,G2,rfl,h4,h5⟩:=h1.splitAt (by simp[lp]) (by simp[lq]);obtain⟨G3,G4,rfl,h6,h7⟩:=h4.splitAt lp lq;have h8:OwnTs K H F [u] [v] [d] G4:=a0J (us:=[u]) (vs:=[v]) h7;simp only[OwnTs]at h8;obtain⟨v',r,d',e,f,g,e1,e2,rfl,o,rfl,rfl,rfl⟩:=h8;cases e1
 cases e2
 obtain⟨d0,o0,f0,pre,post,q1,q2,q3,rfl,q5⟩:=h5.at_ hm;have q:=h6.join (q5 H F (.own u) d (cz v) f (λ_ _=>rfl) (Same.refl _) ⟨v,rfl,o⟩);refine⟨lp,lq,⟨⟨_,q,a0K h2 λa=>?_,λa ha=>h3 a ?_⟩,S.lst,S.prot⟩⟩
 ·simp only[cU];lia
 ·simp only[ay,aX]at ha ⊢;rcases ha with z|z|z|z
  ·exact .inl (.inl z)
  ·exact .inr (.inl z)
  ·exact .inl (.inr z)
  ·exact .inr (.inr (.inr z))
def Pend.st(h:Pend K [] [] [] M U Y H P F):StR K M U Y H P F:=h.2.2
def Pend.one(h:Pend K ([]++[.own u]) ([]++[d]) ([]++[cz v]) M U Y H P F):∃fp,Own K H F u v d fp/\fp.Nodup/\∀a∈fp,a∈F:=by
 obtain⟨_,_,S⟩:=h;obtain⟨G,h1,h2,h3⟩:=S.all;obtain⟨G1,G2,rfl,h4,h5⟩:=h1.splitAt (A:=[]++[.own u]) (U1:=[]++[d]) (Y1:=[]++[cz v]) rfl rfl;have h8:OwnTs K H F [u] [v] [d] G1:=a0J (us:=[u]) (vs:=[v]) h4;simp only[OwnTs]at h8;obtain⟨v',r,d',e,f,g,e1,e2,rfl,o,rfl,rfl,rfl⟩:=h8;cases e1
 cases e2
 rw[aX]at h2 h3;exact⟨f,o,(bV.mp h2).1,λa ha=>h3 a (ak _ ha)⟩
end
section
variable {X:Cx}{u t:Ty}{ML M M1 M2 M':List Md}{st:iO}{oU body BX:List iO}{g g1 g2:EvS}{e tg iter:Expr}{f:EvE}{fc:EvT}{fi:EvA}{c:Cat}{pos:fV}
def EndsOk.pre{K:ag}{P:Hp}{D:Ends}{o:Out}(h:EndsOk K P u ML M' D o)(hw:Wk M M'):EndsOk K P u ML M D o:=by
 cases o with
 |nx U=>exact λY H F S=>by obtain⟨F',S'⟩:=hw K U Y H P F S;exact h Y H F' S'
 |rt d=>exact h
 |bk U=>exact h
 |ct U=>exact h
def PSsX.weak(h:PSsX X u ML M1 oU g M2)(a:Wk M M1)(b:Wk M2 M'):PSsX X u ML M oU g M':=by
 obtain⟨t,p,q⟩:=h.out;refine .mk ⟨t,p,λD U Y H P F o S hg k=>?_⟩;obtain⟨F1,S1⟩:=a _ U Y H P F S;exact q D U Y H P F1 o S1 hg (k.pre b)
def PSX.weak(h:PSX X u ML M1 st g M2)(a:Wk M M1)(b:Wk M2 M'):PSX X u ML M st g M':=by
 obtain⟨t,p,q⟩:=h.out;refine .mk ⟨t,p,λD U Y H P F o S hg k=>?_⟩;obtain⟨F1,S1⟩:=a _ U Y H P F S;exact q D U Y H P F1 o S1 hg (k.pre b)
def C2:PSsX X u ML M [] E3 M:=.mk ⟨_,b5z,λD U Y H P F o S hg k=>by cases hg;exact k Y H F S⟩
def a9(h1:PSX X u ML M st g1 M1)(h2:PSsX X u ML M1 oU g2 M'):PSsX X u ML M (st::oU) (f7 g1 g2) M':=by
 obtain⟨t1,p1,q1⟩:=h1.out;obtain⟨t2,p2,q2⟩:=h2.out;refine .mk ⟨_,a0x p1 p2,λD U Y H P F o S hg k=>?_⟩;obtain⟨o1,h1,g1⟩:=bnd hg;refine q1 {D with nx:=t2 D} U Y H P F o1 S h1 ?_;cases o1 with
 |nx U'=>exact λY' H' F' S'=>q2 D U' Y' H' P F' o S' g1 k
 |rt d=>cases g1;exact k
 |bk U'=>cases g1;exact k
 |ct U'=>cases g1;exact k
def e7(h1:PSX X u ML M st g M1):PSsX X u ML M [st] g M1:=by
 obtain⟨t1,p1,q1⟩:=h1.out;exact .mk ⟨_,a9m p1,q1⟩
def f6(i:Nat)(hN:X.N.Nodup)(he:PMX X M e f t M1)(hi:X.N[i]?=cz x:=by rfl)(hx:autoParam (Loc X.env.scope x) ZX._auto_1)(hm:M1[i]?=cz m:=by rfl)
  (hs:fx e (cz (.Name x px)) pos.line X.env=pure xn:=by rfl) (hf:autoParam (X.fn x=rp\/X.env.scope.names.lookup x=cz .local) ZW._auto_1):PSX X u ML M (.Assign [.Name x px] e pos) (i5 i f) (M1.set i (.own t)):=by
 obtain⟨te,pe,qe⟩:=he;refine .mk ⟨_,a7D hN hi hx pe hs hf,λD U Y H P F o S hg k=>?_⟩;obtain⟨d,h1,g1⟩:=bnd hg;cases g1
 exact qe [] [] [] U Y H P F d _ S.pend h1 λv H' F' e S'=>k _ _ F' (S'.store rfl rfl hm).st
def k9(he:PMX X M e f u M1):PSX X u ML M (.Return (cz e) pos) (v5 f) M':=by
 obtain⟨te,pe,qe⟩:=he;refine .mk ⟨_,b8y pe,λD U Y H P F o S hg k=>?_⟩;obtain⟨d,h1,g1⟩:=bnd hg;cases g1
 refine qe [] [] [] U Y H P F d _ S.pend h1 λv H' F' e S'=>?_
 obtain⟨fp,o,nd,sub⟩:=S'.one;refine k v H' fp (o.frame (C7 sub) u λ_ _=>rfl) nd (λa ha=>?_) (S'.2.2.prot.trans j6);cases hP:P a with
 |none=>rfl
 |some o'=>
  have:=S'.2.2.prot _ _ hP;rw[V5 (sub a ha)]at this;cases this
def b6f(he:PX X M e f c)(hs:fx e p4 pos.line X.env=pure xn:=by rfl):PSX X u ML M (.Expr e pos) (sEx f) M:=by
 obtain⟨te,pe,qe⟩:=he.out;refine .mk ⟨_,Q1 pe hs,λD U Y H P F o S hg k=>?_⟩;obtain⟨d,h1,g1⟩:=bnd hg;cases g1
 exact qe U Y H P F d _ S.toE h1 λv H' e _=>k Y H' F (S.grow e)
def M9(hc:PTX X M c0 fc)(ha:PSsX X u ML M body g1 M')(hb:PSsX X u ML M BX g2 M'):PSX X u ML M (.If c0 body BX pos) (sIf fc g1 g2) M':=by
 obtain⟨tc,pc,qc⟩:=hc.out;obtain⟨ta,pa,qa⟩:=ha.out;obtain⟨tb,pb,qb⟩:=hb.out;refine .mk ⟨_,c0Z pc pa pb,λD U Y H P F o S hg k=>?_⟩;obtain⟨b,h1,g1⟩:=bnd hg;refine qc U Y H P F b _ S.toE h1 λH1 e1=>?_
 cases b with
 |true=>exact a6r (qa D U Y H1 P F o (S.grow e1) g1 k)
 |false=>exact a6q (qb D U Y H1 P F o (S.grow e1) g1 k)
def b8a:PSX X u ML M st sNo M':=.mk ⟨_,b2m,λD U Y H P F o S hg k=>by cases hg⟩
def b2Y(K:ag)(M MB:List Md)(g:TG)(set:List D->D->Option (List D))(m:D->Prop):Prop:=
 ∀(U:List D) (Y:L2.St) (H P:Hp) (F:List aC) (x:V) (d:D) (U':List D) (Q:L2.St->Hp->Prop),StR K M U Y H P F->Den K (cut H F) x d->m d->set U d=cz U'->(∀Y' F',StR K MB U' Y' H P F'->Q Y' H)->g x Y H Q
def mI(d:D):Prop:=imm d=rp
def mF(_:D):Prop:=True
def a0j(hm:M[i]?=cz m:=by rfl):b2Y K M (M.set i (.own .f)) (V0 i) (p6 i) mF:=by
 intro U Y H P F x d U' Q S hd _ hs q;cases hs
 exact q _ _ (S.set (u:=.f) (fp:=[]) hm (Same.refl _) (by simp only[Own,bT];exact⟨trivial,hd⟩) bE λa ha=>(nomatch ha))
def Q6(hm:M[i]?=cz m:=by rfl):b2Y K M (M.set i (.own .i)) (V0 i) (p6 i) mI:=by
 intro U Y H P F x d U' Q S hd hi hs q;cases hs
 exact q _ _ (S.set (u:=.i) (fp:=[]) hm (Same.refl _) (by simp only[Own,bT];exact⟨trivial,hi,hd⟩) bE λa ha=>(nomatch ha))
def a7X(hw:w=.f\/w=.i)(iw:i≠j:=by decide)(tu:M[i]?=cz m1:=by rfl)(DY:M[j]?=cz m2:=by rfl):b2Y K M ((M.set i (.own w)).set j (.own w)) (b8C K 2 (a6m (V0 i) (a6m (V0 j) b8B))) (a2S i j) (λd=>w=.i->imm d=rp):=by
 intro U Y H P F x d U' Q S hd hi hs q;obtain⟨⟨d1,d2⟩,h2,g2⟩:=bnd hs;cases g2
 have ED:d=.tuple [d1,d2]:=by
  match d,h2 with
  |.tuple [a,b],h2=>cases h2;rfl
 subst ED;obtain⟨a,xs,rfl,k1,k2⟩:=hd.tup_inv;obtain⟨v1,v2,rfl,k3,k4⟩:=a2w k2;refine⟨a,_,rfl,a2L k1 j6,rfl,v1,[v2],rfl,v2,[],rfl,rfl,?_⟩;have o1:Own K H ([]++F) w v1 d1 []:=by
  rcases hw with rfl|rfl
  ·simp only[Own,bT];exact⟨trivial,k3⟩
  ·have:=hi rfl;simp only[imm,c7,aL]at this;simp only[Own,bT];exact⟨trivial,this.1,k3⟩
 have o2:Own K H ([]++([]++F)) w v2 d2 []:=by
  rcases hw with rfl|rfl
  ·simp only[Own,bT];exact⟨trivial,k4⟩
  ·have:=hi rfl;simp only[imm,c7,aL]at this;simp only[Own,bT];exact⟨trivial,this.2.1,k4⟩
 have S1:=S.set tu (Same.refl _) o1 bE λa ha=>(nomatch ha)
 exact q _ _ (S1.set (i:=j) (m:=m2) (by rw[bS iw];exact DY) (Same.refl _) o2 bE λa ha=>(nomatch ha))
def A6{set:List D->D->Option (List D)}{m:D->Prop}(hc:X.calm=rp)(hp:oQ (a_ X.prog X.w) X.A X.env X.xe)(hi:PIX X M tg iter fi)(hg:PG X tg gt)(hs:b2Y X.K M MB gt set m)(hm:∀U ds,fi U=cz ds->∀d∈ds,m d)(hb:PSsX X u M MB body g M)
  (hf:∀x,fy iter X.env x=pure x:=by intro _;rfl):PSX X u ML M (.For tg iter body [] pos) (y6 fi set g) M:=by
 obtain⟨wi,pi,qi⟩:=hi;obtain⟨tb,pb,qb⟩:=hb.out;refine .mk ⟨_,a7F hp hc pi hg pb hf,λD U Y H P F o S uF k=>?_⟩;obtain⟨ds,h1,g1⟩:=bnd uF;refine qi U Y H P F ds _ S.toE h1 λJ xs Pr H1 e1 hw uv hx=>?_
 have S1:=S.grow e1;have qQ:=hx.length;refine⟨λi n Y' H'=>n=xs.length-i/\i<=xs.length/\∃U' F',StR X.K M U' Y' H' (cut H1 F) F'/\U7 set g (ds.drop i) U'=cz o,⟨xs.length,by simp,bL _,U,F,⟨S1.all,S1.lst,Same.refl _⟩,g1⟩,?_⟩;rintro i n Y' H' ⟨rfl,hi,U',F',S',hfl⟩;have n_:Same (cut H1 F) (cut H' F'):=S'.prot;have q:=uv H' (n_.trans j6);by_cases jN:i<xs.length
 ·refine .inr ⟨hw.go i H' q jN,λY2 H2=>∃U2 F2,StR X.K M U2 Y2 H2 (cut H1 F) F2/\U7 set g (ds.drop (i+1)) U2=cz o,λY2 H2 ⟨U2,F2,S2,h2⟩=>⟨xs.length-(i+1),by lia,rfl,jN,U2,F2,S2,h2⟩,λx H2 hy=>?_⟩;obtain⟨rfl,sk⟩:=hw.yld i H' x H2 q jN hy;have nT:i<ds.length:=by lia
  have om:ds.drop i=ds[i]::ds.drop (i+1):=dw nT;rw[om]at hfl;obtain⟨U1,vm,g2⟩:=bnd (show (set U' ds[i]).bind _=cz o from hfl);obtain⟨o1,uG,g3⟩:=bnd g2;obtain⟨d',sD,tD⟩:=(hx.up n_).getV sk;have jO:d'=ds[i]:=by rw[ab nT]at sD;exact (aF sD).symm
  subst jO;refine hs U' Y' H2 (cut H1 F) F' x _ U1 _ S' tD (hm U ds h1 _ (dh nT)) vm λY3 F3 S3=>qb _ U1 Y3 H2 (cut H1 F) F3 o1 S3 uG ?_
  cases o1 with
  |nx U2=>exact λY4 H4 F4 S4=>⟨U2,F4,S4,g3⟩
  |ct U2=>exact λY4 H4 F4 S4=>⟨U2,F4,S4,g3⟩
  |bk U2=>
   have:o=.nx U2:=(aF g3).symm;subst this;exact λY4 H4 F4 S4=>k Y4 H4 F4 ⟨S4.all,S4.lst,S1.prot.trans S4.prot⟩
  |rt d=>
   have:o=.rt d:=(aF g3).symm;subst this;refine λv H4 fp o nd fr e=>k v H4 fp o nd (λa ha=>?_) (S1.prot.trans e)
   exact S1.prot.free (fr a ha)
 ·have e:i=xs.length:=by lia
  subst e;rw[qQ,iY]at hfl;have:o=.nx U':=(aF hfl).symm;subst this;exact .inl ⟨hw.stop _ H' q (az _),k Y' H' F' ⟨S'.all,S'.lst,S1.prot.trans S'.prot⟩⟩
def V9(n:List D->Nat)(hp:oQ (a_ X.prog X.w) X.A X.env X.xe)(hc:PTX X M c0 fc)(hb:PSsX X u M M body g M):PSX X u ML M (.While c0 body [] pos) (sWh n fc g) M:=by
 obtain⟨tc,pc,qc⟩:=hc.out;obtain⟨tb,pb,qb⟩:=hb.out;refine .mk ⟨_,b2n hp pc pb,λD U Y H P F o S uF k=>?_⟩;refine⟨λn Y' H'=>∃U' F',StR X.K M U' Y' H' P F'/\whL fc g n U'=cz o,⟨n U,U,F,S,uF⟩,?_⟩;rintro n Y' H' ⟨U',F',S',hw⟩;cases n with
 |zero=>cases hw
 |succ n=>
  obtain⟨b,h1,g1⟩:=bnd (show (fc U').bind _=cz o from hw);refine qc U' Y' H' P F' b _ S'.toE h1 λH1 e1=>?_
  cases b with
  |true=>
   refine a6r ⟨λY2 H2=>∃U2 F2,StR X.K M U2 Y2 H2 P F2/\whL fc g n U2=cz o,λY2 H2 z=>⟨n,pD _,z⟩,?_⟩;obtain⟨o1,uG,g3⟩:=bnd (show (g U').bind _=cz o from g1);refine qb _ U' Y' H1 P F' o1 (S'.grow e1) uG ?_;cases o1 with
   |nx U2=>exact λY4 H4 F4 S4=>⟨U2,F4,S4,g3⟩
   |ct U2=>exact λY4 H4 F4 S4=>⟨U2,F4,S4,g3⟩
   |bk U2=>
    have:o=.nx U2:=(aF g3).symm;subst this;exact λY4 H4 F4 S4=>k Y4 H4 F4 S4
   |rt d=>
    have:o=.rt d:=(aF g3).symm;subst this;exact k
  |false=>
   have:o=.nx U':=(aF g1).symm;subst this;exact a6q (k Y' H1 F' (S'.grow e1))
end
abbrev EvP:=List D->Option (List Nat)
def PPX(X:Cx)(M:List Md)(e:Expr)(i:Nat)(f:EvP):Prop:=
 ∃t,PE X e t/\∀(U:List D) (Y:L2.St) (H P:Hp) (F:List aC) (p:List Nat) (Q:VK),StE X.K M U Y H P F->f U=cz p->(∀v v0 H',Same H H'->Y[i]?=cz (cz v0)->wk H' v0 p v->Q v H')->t Y H Q
def y7:EvP:=λ_=>cz []
def a5x(u:Ty)(d:D)(p:List Nat):Option (List D):=(dAt u d p).bind λtd=>match td with
 | (.l _,.list ds)=>cz ds
 | (.tp _,.tuple ds)=>cz ds
 |_=>p4
section
variable {X:Cx}{u t w:Ty}{ML M M1 M':List Md}{e b pl:Expr}{f fb:EvE}{fp:EvP}{cb:Cat}{pos apos cV:fV}
def Q7(i:Nat)(hN:X.N[i]?=cz x:=by rfl)(hv:autoParam (NmV X x) ZY._auto_1)(hm:M[i]?=cz (.own u):=by rfl):PPX X M (.Name x pos) i y7:=by
 refine⟨_,C6 hN hv.1 hv.2.1 hv.2.2,λU Y H P F p Q S hf k=>?_⟩;cases hf
 obtain⟨v,f,e,_⟩:=S.get hm;exact⟨v,e,k v v H (Same.refl _) e rfl⟩
def W1(i:Nat)(u:Ty)(fp:EvP)(fe:EvE):EvS:=λU=>(fp U).bind λp=>(a5x u (U.getD i .none) p).bind λds=>(fe U).bind λd=>if ds.length<1000000 then cz (.nx (U.set i (a2q (U.getD i .none) p (.list (ds++[d]))))) else p4
def b0S(i:Nat)(u:Ty)(fp:EvP)(fj fe:EvE):EvS:=λU=>(fe U).bind λd=>(fp U).bind λp=>(a5x u (U.getD i .none) p).bind λds=>(fj U).bind λy=>(asI y).bind λk=>(ixN ds.length k).bind λj=>cz (.nx (U.set i (a2q (U.getD i .none) p (.list (ds.set j d)))))
def b9g(u:Ty)(fp:EvP)(t:Ty):Prop:=∀U p d td,fp U=cz p->dAt u d p=cz td->td.1=.l t
def a2T:b9g (.l t) y7 t:=λU p d td h1 h2=>by
 cases h1
 have ox:cz (Ty.l t,d)=cz td:=h2;cases ox
 rfl
def at_list{d:D}{p:List Nat}{ds:List D}(ht:∀td,dAt u d p=cz td->td.1=.l t)(hi:a5x u d p=cz ds):dAt u d p=cz (.l t,.list ds):=by
 obtain⟨⟨t',d'⟩,h1,h2⟩:=bnd hi;have e:t'=.l t:=ht _ h1;subst e;cases d' with
 |list es=>cases h2;exact h1
 |_=>cases h2
def a2U(i:Nat)(hp:PPX X M pl i fp)(he:PMX X M e f t M1)(ht:b9g u fp t)(hm:M[i]?=cz (.own u):=by rfl)(tu:M1[i]?=cz (.own u):=by rfl)
  (fN:dZ pl "append" X.env (cI pl X.env)=cI pl X.env:=by rfl)
  (iT:((cD cV (au [e] X.env)).all (λx=>!x.1)&&(eV cV (dC [] X.env)).all (λx=>x.1.isSome)
   && decide ([e].length+([]:List eL).length+(if ([]:List eL).isEmpty then 0 else 1)<30))=rp:=by rfl)
  (fM:(apos.endLine==cV.line)=rp:=by rfl) (hs:au [e] X.env=(xn,cI e X.env)::au [] X.env:=by rfl) (eB:(cD cV (au [] X.env)).any (·.1)=xn:=by rfl)
  (qo:fx (.Call (.Attribute pl "append" apos) [e] [] cV) p4 pos.line X.env=pure xn:=by rfl) :
  PSX X w ML M (.Expr (.Call (.Attribute pl "append" apos) [e] [] cV) pos) (W1 i u fp f) M1:=by
 obtain⟨tp,pp,qp⟩:=hp;obtain⟨te,pe,qe⟩:=he;refine .mk ⟨_,Q1 (a4n eP kO kN X3 pp (k6 pe n8 hs) fN iT fM hs eB) qo,λD U Y H P F o S hg k=>?_⟩;obtain⟨p,h1,g1⟩:=bnd hg;obtain⟨ds,h2,g2⟩:=bnd g1;obtain⟨d,h3,g3⟩:=bnd g2;by_cases hz:ds.length<1000000
 ·rw[aE hz]at g3;cases g3
  refine qp U Y H P F p _ S.toE h1 λv v0 H1 e1 vh hw=>?_
  have S1:=S.grow e1;obtain⟨v',f',e',o,_⟩:=S1.toE.get hm;rw[vh]at e';cases e'
  have tE:=at_list (λtd z=>ht U p _ td h1 z) h2;obtain⟨b,xs,fs,pre,post,rfl,r2,_,_,_⟩:=o.path p tE hw;refine⟨.inl ⟨rfl,xs,SqL.of r2⟩,qe [] [] [] U Y H1 P F d _ S1.pend h3 λv1 H2 F2 e2 S2=>?_⟩;obtain⟨b',lA,e',vY,hl,S3,_⟩:=S2.put tu vh tE (b2X e2 hw);cases e'
  refine⟨b,lA,v1,rfl,rfl,vY,?_,k Y _ F2 S3⟩;rw[hl];exact gT hz (by rw[dB];decide)
 ·rw[aM hz]at g3;cases g3
def b2Z(i:Nat)(hp:PPX X M1 pl i fp)(hj:PX X M1 j fj cj)(he:PMX X M e f t M1)(ht:b9g u fp t)(tu:M1[i]?=cz (.own u):=by rfl)
  (ha:∀v,mU (.Subscript pl j jv) X.env v=(do
   let ov <-lW [v] (cI pl X.env)
   let iv <-lW [v,ov] (cI j X.env)
   Cz jv
   lW [v,ov,iv] (CA ov iv v)
   release [v,ov,iv] []):=by intro _;rfl)
  (hs:swapsWithSole [.Subscript pl j jv] e pos.line X.env=pure xn:=by rfl) (hw:swappedStores [.Subscript pl j jv] e X.env=pure p4:=by rfl)
  (h1:(ll [.Subscript pl j jv] X.env).map (·.2)=[mU (.Subscript pl j jv) X.env]:=by rfl) :
  PSX X w ML M (.Assign [.Subscript pl j jv] e pos) (b0S i u fp fj f) M1:=by
 obtain⟨tp,pp,qp⟩:=hp;obtain⟨tj,pj,qj⟩:=hj.out;obtain⟨te,pe,qe⟩:=he;refine .mk ⟨_,b8F pe (b8D pp pj set_list ha) hs hw h1,λD U Y H P F o S hg k=>?_⟩;obtain⟨d,h3,g3⟩:=bnd hg;obtain⟨p,h1,g1⟩:=bnd g3;obtain⟨ds,h2,g2⟩:=bnd g1;obtain⟨y,h4,g4⟩:=bnd g2;obtain⟨kk,h5,g5⟩:=bnd g4;cases V6 h5
 obtain⟨jj,h6,g6⟩:=bnd g5;cases g6
 refine qe [] [] [] U Y H P F d _ S.pend h3 λv1 H1 F1 e1 S1=>qp U Y H1 P F1 p _ S1.e h1 λv v0 H2 e2 vh wu=>qj U Y H2 P F1 _ _ (S1.e.grow e2) h4 λvj H3 e3 r3=>?_
 have S2:=(S1.grow (e2.trans e3));have tE:=at_list (λtd z=>ht U p _ td h1 z) h2;obtain⟨b,xs,rfl,r2,hl,_,S3⟩:=S2.put tu vh tE (b2X e3 wu);have jN:jj<ds.length:=(a5e h6).2.1;exact⟨b,xs,kk,jj,rfl,r3.den.int_inv,r2,by rw[hl];exact h6,k Y _ F1 (S3 jj jN)⟩
def a7Y(i:Nat)(hN:X.N.Nodup)(hc:X.calm=rp)
  (hi:PIX X M tg iter fi) (C:X5 scope X.env.kindOf ys js X.N=rp) (hg:∀cl Cl s H fp,PG (L7 X (tn++ys) scope cl Cl s H fp) tg g) (zU:TgR X.K g n pt) (yg:mm=.i\/mm=.f)
  (tm:mm=.i->∀U ds,fi U=cz ds->∀d∈ds,∀bs,pt d=cz bs->c7 bs=rp) (wA:tn.length=n)
  (ht:∀cl Cl s H fp,PTs (L7 X (tn++ys) scope cl Cl s H fp) ifs (spT X.K (V7 (.own mm) n M js) ft)) (he:∀cl Cl s H fp,PX (L7 X (tn++ys) scope cl Cl s H fp) (V7 (.own mm) n M js) elt fe (.new t))
  (sk:X.N[i]?=cz x:=by rfl) (hx:autoParam (Loc X.env.scope x) ZX._auto_1) (hm:M[i]?=cz m:=by rfl)
  (qo:fx (.ListComp elt [⟨tg,iter,ifs,0⟩] scope cps) (cz (.Name x px)) pos.line X.env=pure rp:=by rfl) (hs:∀x,fy iter X.env x=pure x:=by intro _;rfl)
  (hf:autoParam (X.fn x=rp\/X.env.scope.names.lookup x=cz .local) ZW._auto_1) :
  PSX X w ML M (.Assign [.Name x px] (.ListComp elt [⟨tg,iter,ifs,0⟩] scope cps) pos) (i5 i (m6 fi js pt ft fe)) (M.set i (.own (.l t))):=by
 obtain⟨wi,pi,qi⟩:=hi;refine .mk ⟨_,a6s (te:=spE X.K (V7 (.own mm) n M js) fe (.new t)) hc hN sk hx pi C hg ht he qo hs hf,λD U Y H P F o S vB k=>?_⟩;obtain⟨d,h1,g1⟩:=bnd vB;cases g1
 exact a4y qi zU yg tm wA S.toE h1 λv H' e ⟨fp,o,nd,fr⟩=>k _ _ _ (S.set hm e o nd fr)
end
def argsOk:List Ty->List D->Bool
 |[],[]=>rp
 |.i::us,d::ds=>imm d&&argsOk us ds
 |.f::us,_::ds=>argsOk us ds
 |_,_=>xn
noncomputable def fnD(us:List Ty)(n:Nat)(g:EvS):List D->Option D:=λds=>if argsOk us ds then (g (ds++aI n .none)).bind λo=>match o with
 |.rt d=>cz d
 |_=>p4
 else p4
theorem Q8:∀{us:List Ty} {vs:List V} {ds:List D},argsOk us ds=rp->DenAll K H vs ds->∀n,StAll K H [] (us.map .own++aI n .dead) (ds++aI n .none) (vs.map cz++aI n p4) []
 |[],vs,[],_,hd,n=>by
  rw[hd.nil_inv]
  induction n with
  |zero=>exact O3
  |succ n ih=>exact k7 (K:=K) (H:=H) (F:=[]) (m:=.dead) (f:=[]) rfl ih
 |.i::us,vs,d::ds,h,hd,n=>by
  have h':imm d=rp/\argsOk us ds=rp:=by simpa[argsOk]using h
  obtain⟨v,r,rfl,h1,h2⟩:=hd.cons_inv;refine k7 (K:=K) (H:=H) (F:=[]) (m:=.own .i) (f:=[]) ⟨v,rfl,?_⟩ (Q8 h'.2 h2 n);simp only[Own,H9];exact⟨trivial,h'.1,h1⟩
 |.f::us,vs,d::ds,h,hd,n=>by
  have h':argsOk us ds=rp:=by simpa[argsOk]using h
  obtain⟨v,r,rfl,h1,h2⟩:=hd.cons_inv;refine k7 (K:=K) (H:=H) (F:=[]) (m:=.own .f) (f:=[]) ⟨v,rfl,?_⟩ (Q8 h' h2 n);simp only[Own,H9];exact⟨trivial,h1⟩
 |.l _::us,vs,d::ds,h,_,_=>by simp[argsOk]at h
 |.tp _::us,vs,d::ds,h,_,_=>by simp[argsOk]at h
 |.d _ _::us,vs,d::ds,h,_,_=>by simp[argsOk]at h
 |[],vs,d::ds,h,_,_=>by simp[argsOk]at h
 |.i::us,vs,[],h,_,_=>by simp[argsOk]at h
 |.f::us,vs,[],h,_,_=>by simp[argsOk]at h
 |.l _::us,vs,[],h,_,_=>by simp[argsOk]at h
 |.tp _::us,vs,[],h,_,_=>by simp[argsOk]at h
 |.d _ _::us,vs,[],h,_,_=>by simp[argsOk]at h
open PyProof.Rows in
def b6g{P:bA}{w:bQ}{K:ag}{mg:bM->Option ai}{base:cM}{x:bM}{st:iO}{f:aC}{fd:dU}{N ps:List bM}{k n:Nat}{us:List Ty}{u:Ty}{g:EvS}{M':List Md}(F:Fun K x x st f fd)(S:FnScope N ps (f8 st))(oX:us.length=ps.length)(hn:N.length=ps.length+n)
  (hb:∀(gH:ai) (A:bN) (outer:List pH) (s:ao) (H:Hp) (E:XK),Room k (A.deeper (jD x (f8 st) s.heap.objs.size f gH))->PSsX (a0z CX0 P w K mg base N x (f8 st) f gH A outer s H E).nox u [] (us.map .own++aI n .dead) (u7 st) g M') :
  FnOk P w K mg base CX0 (k+1) f fd ps (spD K ps.length (fnD us n g) u):=by
 refine F.ok S (λvs H Q E h=>?_) (λgH A outer s H vs Q E hr h=>?_)
 ·obtain⟨ds,d,hl,_⟩:=h;exact hl
 obtain⟨ds,d,hl,hd,hm,q⟩:=h;obtain⟨t,p,r⟩:=(hb gH A outer s H E hr).out;refine⟨t,p,?_⟩;unfold fnD at hm;by_cases ha:argsOk us ds=rp
 ·rw[aE ha]at hm;obtain⟨o,h1,h2⟩:=bnd hm;cases o with
  |rt d'=>
   have ox:cz d'=cz d:=h2;cases ox
   have e:L2.start N vs=vs.map cz++aI n p4:=by
    unfold L2.start;rw[show N.length-vs.length=n by lia]
   rw[e];refine r _ (ds++aI n iQ) _ H H [] (.rt d) ⟨⟨[],Q8 ha hd n,bE,λa ha=>(nomatch ha)⟩,λa ha=>(nomatch ha),by rw[H9];exact Same.refl H⟩ h1 ?_;exact λv H' fp o nd fr e=>q v H' fp e o nd fr
  |_=>cases h2
 ·rw[aM ha]at hm;cases hm
end VS
namespace VS
open PySem.Spec L2 PyProof.Rows
def C9(K:ag):List (bM×aC):=K1.filterMap λx=>(A0 K x).map λp=>(x,p)
def a1k:List aC->Bool
 |[]=>rp
 |a::r=>!r.contains a&&a1k r
def a2V(K:ag)(names:List bM):Bool:=a1k ((C9 K).map (·.2))&&(C9 K).all λt=>(K.lookup t.2).isNone&&names.contains t.1
theorem a2W:∀{l:List (bM×aC)} {x y:bM} {p:aC},a1k (l.map (·.2))=rp->(x,p)∈l->(y,p)∈l->x=y
 |[],_,_,_,_,h,_=>(nomatch h)
 | (z,q)::l,x,y,p,h,h1,h2=>by
  have h':((l.map (·.2)).contains q=xn)/\a1k (l.map (·.2))=rp:=by simpa[a1k]using h
  have AX:∀w,(w,q)∉l:=λw hw=>by
   have:(l.map (·.2)).contains q=rp:=by
    rw[vR];exact aG.mpr ⟨(w,q),hw,rfl⟩
   rw[h'.1]at this;cases this
  rcases aN.mp h1 with e1|e1
  ·rcases aN.mp h2 with e2|e2
   ·cases e1;cases e2;rfl
   ·cases e1;exact absurd e2 (AX y)
  ·rcases aN.mp h2 with e2|e2
   ·cases e2;exact absurd e1 (AX x)
   ·exact a2W h'.2 e1 e2
def a1P{K:ag}{x:bM}{p:aC}(hx:x∈K1)(h:A0 K x=cz p):(x,p)∈C9 K:=
 dM.mpr ⟨x,hx,by rw[h];rfl⟩
def C3{K:ag}{x:bM}{p:aC}(h:(x,p)∈C9 K):x∈K1/\A0 K x=cz p:=by
 obtain⟨y,hy,e⟩:=dM.mp h;cases q:A0 K y with
 |none=>rw[q]at e;cases e
 |some r=>
  rw[q]at e;have e':(y,r)=(x,p):=aF e;cases e'
  exact⟨hy,q⟩
def a7Z{K:ag}(e:a5b K cd=cz p)(X:K.In h):∃c,cd=.ref c/\gM h c p:=by
 unfold a5b at e
 split at e
 ·rename_i c
  split at e
  ·rename_i n dd vs sl hc
   split at e
   ·rename_i hn
    split at e
    ·rename_i P' file tf flags tg Bd text tt BP Fg h7 h9 Fh
     split at e
     ·rename_i i_
      cases e
      have en:n="code":=by simpa using hn
      subst en;refine⟨c,rfl,_,vs,file,tf,flags,tg,Bd,text,tt,X _ _ hc,rfl,rfl,BP,?_,?_,?_,?_,?_,bne_iff_ne.mp i_⟩
      ·simp[fq,BP]
      ·simp[fq,Fg]
      ·simp[fq,h7]
      ·simp[fq,h9]
      ·simp[fq,Fh]
     ·cases e
    ·cases e
   ·cases e
  ·cases e
 ·cases e
def a4A{K:ag}{h:cM}(e:A0 K x=cz p)(X:K.In h)(G:h.Ns bU mg) :
  ∃f oc od fd sl c,mg x=cz (.ref f)/\K.lookup f=cz ⟨oc,od,.func fd,sl⟩/\fd.code=.ref c/\gM h c p:=by
 unfold A0 at e
 split at e
 ·rename_i f hf
  split at e
  ·rename_i oc od fd sl hl
   obtain⟨c,hc,hd⟩:=a7Z e X;exact⟨f,oc,od,fd,sl,c,kM X G hf,hl,hc,hd⟩
  ·cases e
 ·cases e
def Tab0(K:ag)(h:cM):Prop:=∀x∈K1,∀p,A0 K x=cz p->isCodeTable h p/\h.get? p=cz {cls:=.none,data:=.fields #[]}
def b6h{q:bA}{loose:List bM}{yY:ExcName->Option ai}{mg mb:bM->Option ai}{h:cM}{K:ag}(T:Top q loose yY mg mb h)(X:K.In h)(ok:a2V K ((recsOf q).map (·.name))=rp):Tab0 K h:=λx hx p e=>by
 have hm:=a1P hx e;have hn:((K.lookup p).isNone&&((recsOf q).map (·.name)).contains x)=rp:=by
  unfold a2V at ok;rw[aL]at ok;exact dP.mp ok.2 _ hm
 rw[aL,vR]at hn;obtain⟨d,hd,rfl⟩:=aG.mp hn.2;obtain⟨f,oc,od,fd,sl,c,h1,h2,h3,h4⟩:=a4A e X T.g;obtain⟨a,o,BQ,c',P',z1,z2,z3,z4,z5,z6⟩:=T.tab d hd;rw[h1]at z1;cases z1
 rw[X _ _ h2]at z2;cases z2
 have Cm:Data.func fd=Data.func BQ:=z3;cases Cm
 rw[h3]at z4;cases z4
 obtain⟨ob,vs,file,tf,flags,tg,Bd,text,tt,y1,y2,y3,y4,_⟩:=h4;obtain⟨⟨Gp,Ga,w1,w2,w3,w4⟩,w5⟩:=id z6;rw[y1]at w1;cases w1
 rw[y3]at w3;cases w3
 rw[y4]at w4;cases w4
 exact⟨z6.isCodeTable,w5⟩
def L8(K:ag)(H:Hp):Hp:=λb=>match (C9 K).find? λt=>t.2==b with
 |some t=>cz (.tbl #[.str (U9 t.1) 0])
 |none=>H b
def b0T{K:ag}{s₁:ao}{vs:List ai} 
  (KX:K.In s₁.heap) (su:s₁.heap.Ns bU mg) (hb:s₁.heap.Ns lh mb) (yq:∀x:bM,x≠"__name__"->mb x=ie x) (zM:s₁.heap.NoLimit) (hg:s₁.gens=#[])
  (EK:∃bm ob,mg "__builtins__"=cz (.ref bm)/\bm≠lh/\s₁.heap.get? bm=cz ob/\ob.cls=.type "module"/\ob.dict=cz lh/\ob.data=.plain)
  (sq:Tab0 K s₁.heap) (qx:a2V K names=rp)
  (ha:s₁.heap.get? a=cz {cls:=.type "list",data:=.seq vs.toArray}) (hi:IntsAre vs ns) (hl:ns.length<=br) (hr:Room k oP)
  (F:∀base:cM,K.In base->base.Ns bU mg->FnOk P w K mg base CX k fa fd [x] sp) (oq:∀(s:ao) (u:ai),oR s fd ⟨[u],[]⟩ [(x,u)])
  (qZ:∀H:Hp,SqX K H a (ns.map V.int)->sp [.ref a] H (λv _=>v=.bl rp) λ_ _ _=>False)
  (Ao:∀H e s',CX [] H s₁ (λ_ _ _=>False) e s'->False) :
  kJ (a_ P w) oP (.call (.ref fa) ⟨[.ref a],[]⟩) (λr s'=>r=.ok (.ret (.bool rp))/\OldK s₁.heap s'.heap/\s'.os=s₁.os/\p_ s'.gens) s₁:=by
 have rv:=vals_ints hi;have za:=hi.length;have CN:a1k ((C9 K).map (·.2))=rp:=by unfold a2V at qx;rw[aL]at qx;exact qx.1
 have CM:∀t∈C9 K,K.lookup t.2=p4:=λt ht=>by
  unfold a2V at qx;rw[aL]at qx;have:=dP.mp qx.2 t ht;rw[aL]at this;exact sd.mp this.1
 have core:∀H0:Hp,SqX K H0 a (ns.map V.int)->HOk P w H0 s₁.heap->(∀b u,H0 b=cz u->b=a/\∃o xs,u=.frz o (.lst xs))->(H0 a≠p4->K.lookup a=p4)->
   kJ (a_ P w) oP (.call (.ref fa) ⟨[.ref a],[]⟩) (λr s'=>r=.ok (.ret (.bool rp))/\OldK s₁.heap s'.heap/\s'.os=s₁.os/\p_ s'.gens) s₁:=by
  intro H0 hS hok hA hK;have lH:∀b u,L8 K H0 b=cz u->(∃x,(x,b)∈C9 K/\u=.tbl #[.str (U9 x) 0])\/((∀x,(x,b)∉C9 K)/\H0 b=cz u):=λb u e=>by
   unfold L8 at e
   split at e
   ·rename_i t ht
    cases e
    have h1:=sf ht;have h2:t.2=b:=beq_iff_eq.mp (G_ (p:=λt:bM×aC=>t.2==b) ht);refine .inl ⟨t.1,?_,rfl⟩;rw[<-h2];exact h1
   ·rename_i ht
    refine .inr ⟨λx hx=>?_,e⟩;have:=kg.mp ht _ hx;simp at this
  have tabAt:∀x p,(x,p)∈C9 K->L8 K H0 p=cz (.tbl #[.str (U9 x) 0]):=λx p hm=>by
   cases e:L8 K H0 p with
   |none=>
    unfold L8 at e
    split at e
    ·cases e
    ·rename_i ht
     have:=kg.mp ht _ hm;simp at this
   |some u=>
    rcases lH p u e with⟨y,hy,rfl⟩|⟨hn,_⟩
    ·rw[a2W CN hm hy]
    ·exact absurd hm (hn x)
  have nA:∀x,(x,a)∉C9 K:=λx hx=>by
   have:=(sq x (C3 hx).1 a (C3 hx).2).2;rw[ha]at this;cases this
  have Cc:L8 K H0 a=H0 a:=by
   cases e:L8 K H0 a with
   |none=>
    unfold L8 at e
    split at e
    ·cases e
    ·exact e.symm
   |some u=>
    rcases lH a u e with⟨y,hy,_⟩|⟨_,h⟩
    ·exact absurd hy (nA y)
    ·exact h.symm
  have xx:SqX K (L8 K H0) a (ns.map V.int):=by
   rcases hS with (h|⟨o,h⟩)|h
   ·exact .inl (.inl (Cc.trans h))
   ·exact .inl (.inr ⟨o,Cc.trans h⟩)
   ·exact .inr h
  have rd:HOk P w (L8 K H0) s₁.heap:=λb u e=>by
   rcases lH b u e with⟨x,hx,rfl⟩|⟨hn,h⟩
   ·obtain⟨h1,h2⟩:=C3 hx;exact⟨#[],(sq x h1 b h2).2,trivial,λpos cv z=>by cases z⟩
   ·obtain⟨rfl,o,xs,rfl⟩:=hA b u h;obtain⟨h1,h2⟩:=hok _ _ h;obtain⟨z,its,n,r,e'⟩:=h2;exact⟨h1,z,its,n,r,e'⟩
  have nK:∀{b:aC} {o:gc},s₁.heap.get? b=cz o->L8 K H0 b=p4->(a5a s₁.heap (L8 K H0)).get? b=cz o:=λe n=>b2l e n
  have AV:∀{b:aC} {o:gc},s₁.heap.get? b=cz o->(∀ps,o.data≠.fields ps)->(∀its n,o.data≠.seq its n)->L8 K H0 b=p4:=λ{b o} e d1 d2=>by
   cases q:L8 K H0 b with
   |none=>rfl
   |some u=>
    rcases lH b u q with⟨x,hx,rfl⟩|⟨hn,h⟩
    ·have:=(sq x (C3 hx).1 b (C3 hx).2).2;rw[e]at this;cases this
     exact absurd rfl (d1 _)
    ·obtain⟨rfl,_⟩:=hA b u h;rw[ha]at e;cases e
     exact absurd rfl (d2 _ _)
  have x_:∀{b:aC} {m:bM->Option ai},s₁.heap.Ns b m->(a5a s₁.heap (L8 K H0)).Ns b m:=λ{b m} ⟨o,es,ep,e,d,r⟩=>⟨o,es,ep,nK e (AV e (λps z=>by rw[d]at z;cases z) λits n z=>by rw[d]at z;cases z),d,r⟩
  have BK:K.In (a5a s₁.heap (L8 K H0)):=λb o e=>nK (KX b o e) (by
   cases q:L8 K H0 b with
   |none=>rfl
   |some u=>
    rcases lH b u q with⟨x,hx,rfl⟩|⟨hn,h⟩
    ·rw[CM _ hx]at e;cases e
    ·obtain⟨rfl,_⟩:=hA b u h;rw[hK (by rw[h];simp)]at e;cases e)
  have hM:Mod K mg (a5a s₁.heap (L8 K H0)):=⟨BK,x_ su,⟨mb,x_ hb,yq⟩,let⟨mc,h1,h2⟩:=zM;⟨mc,x_ h1,h2⟩,
   let⟨bm,ob,b1,b2,b3,b4,b5,b6⟩:=EK;⟨bm,ob,b1,b2,nK b3 (AV b3 (λps z=>by rw[b6]at z;cases z) λits n z=>by rw[b6]at z;cases z),b4,b5,b6⟩⟩
  have e0:Env0 P w K mg (a5a s₁.heap (L8 K H0)) oP [] s₁ (L8 K H0):=⟨rfl,hM,λb o e=>b5v e,Nat.le_of_eq (b0u _ _),trivial,λb hb=>absurd (show b∈([]:List aC) from hb) (by simp),rd,.of_eq hg,
   λx hx p e=>⟨_,0,tabAt x p (a1P hx e),rfl⟩⟩
  refine fX ((F _ BK (x_ su)).run oP [] s₁ (L8 K H0) ⟨[.ref a],[]⟩ [.ref a] [.ref a] _ _ hr e0 (oq s₁ (.ref a)) (.cons rfl .nil) (qZ _ xx)) λr s' h=>?_
  cases r with
  |error e=>exact (Ao _ e s' h).elim
  |ok fl=>
   cases fl with
   |next=>exact cO h
   |brk=>exact cO h
   |cont=>exact cO h
   |ret u=>
    obtain⟨v,H',os,bare,un,qw,r',q⟩:=h;have q':v=.bl rp:=q;subst q';obtain rfl:u=mW rp:=r';refine⟨rfl,⟨λb o e=>?_,λb o e=>un.there b o e (by simp)⟩,os,bare⟩;cases q:L8 K H0 b with
    |none=>exact .inl (un.keep b o e q (by intro z;exact absurd (show b∈([]:List aC) from z) (by simp)) (by simp))
    |some u=>
     rcases lH b u q with⟨x,hx,rfl⟩|⟨hn,h⟩
     ·obtain⟨t1,t2⟩:=sq x (C3 hx).1 b (C3 hx).2;rw[e]at t2;cases t2
      obtain⟨more,e2⟩:=un.tbls b _ q;obtain⟨ps,e3,_⟩:=(show a6k H' s'.heap b _ from qw b _ e2);exact .inr (.inl ⟨t1,rfl,#[],ps,rfl,by simpa using e3⟩)
     ·obtain⟨rfl,ob,xs,rfl⟩:=hA b u h;have z2:=un.frzs b ob _ q;obtain⟨e1,_⟩:=rd b _ q;obtain⟨e2,_⟩:=qw b _ z2;rw[e]at e1;cases e1;exact .inl e2
 cases hk:K.lookup a with
 |some o=>
  have e:=KX a o hk;rw[ha]at e;cases e
  refine core (λ_=>p4) (.inr ⟨vs,_,hk,by rw[za];exact hl,rv⟩) (λb u z=>by have z':(p4:Option HO)=cz u:=z;cases z') (λb u z=>by have z':(p4:Option HO)=cz u:=z;cases z') λz=>absurd rfl z
 |none=>
  refine core (λb=>if b=a then cz (.frz {cls:=.type "list",data:=.seq vs.toArray} (.lst (ns.map V.int))) else p4) (.inl (.inr ⟨{cls:=.type "list",data:=.seq vs.toArray},aE rfl⟩)) (λb u z=>?_) (λb u z=>?_) λ_=>hk
  ·by_cases hb:b=a
   ·have z':=(aE hb).symm.trans z;cases z'
    subst hb;exact⟨ha,by rw[af];exact hl,vs,_,rv,ha⟩
   ·have z':=(aM hb).symm.trans z;cases z'
  ·by_cases hb:b=a
   ·have z':=(aE hb).symm.trans z;cases z'
    exact⟨hb,_,_,rfl⟩
   ·have z':=(aM hb).symm.trans z;cases z'
def b3a{l:qF}{XP:(bM->Option ai)->cM->Prop}{YP:bQ->cM->Prop}{d:DefRec}{K:Params->ag}{CX:bQ->CXT}{sp:bQ->Sp} 
  (hn:l.most=cz n) (DO:n<=br) (xj:d.params.defaults=[]) (hr:Room k oP)
  (hY:∀(w:bQ) (h:cM),YP w h->(K w.params).In h) (hT:∀w:bQ,a2V (K w.params) ((recsOf q).map (·.name))=rp)
  (F:∀(w:bQ) (mg:bM->Option ai) (fa:aC) (h:cM),(K w.params).In h->h.Ns bU mg->mg d.name=cz (.ref fa)->
   ∃fd:dU,(∀(s:ao) (u:ai),oR s fd ⟨[u],[]⟩ [(x,u)])/\
    ∀base:cM,(K w.params).In base->base.Ns bU mg->FnOk l.prog w (K w.params) mg base (CX w) k fa fd [x] (sp w))
  (qZ:∀(w:bQ) (H:Hp) (a:aC) (ns:List Int),ns.length<=n->SqX (K w.params) H a (ns.map V.int)->sp w [.ref a] H (λv _=>v=.bl rp) λ_ _ _=>False)
  (Ao:∀(w:bQ) (H:Hp) (s:ao) (e:ai) (s':ao),CX w [] H s (λ_ _ _=>False) e s'->False) :
  PySem.W.WalkO q loose XP YP l.row.toRowW d [] (λf vs=>AG f vs):=by
 refine Att.attach_call hn xj λw s₀ s₁ mg mb fa o pm cd doc a vs ns G yn ho hd nI wQ uz hints hlen hg=>?_
 have KX:=hY w _ yn;obtain⟨fd,hb,hF⟩:=F w mg fa _ KX G.T.g wQ;exact b0T KX G.T.g G.T.b G.T.builtins G.T.nolimit hg G.T.bmain (b6h G.T KX (hT w)) (hT w) uz hints (cC hlen DO) hr hF hb (λH hS=>qZ w H a ns hlen hS) λH e s'=>Ao w H s₁ e s'
def b0U{l:qF}{XP:(bM->Option ai)->cM->Prop}{YP:bQ->cM->Prop}{d:DefRec}{K:Params->ag}{m:List bw->Option bw}(hn:l.most=cz 63)(xj:d.params.defaults=[])(hr:Room k oP)
  (hY:∀(w:bQ) (h:cM),YP w h->(K w.params).In h) (hT:∀w:bQ,a2V (K w.params) ((recsOf q).map (·.name))=rp)
  (F:∀(w:bQ) (mg:bM->Option ai) (fa:aC) (h:cM),(K w.params).In h->h.Ns bU mg->mg d.name=cz (.ref fa)->
   ∃fd:dU,(∀(s:ao) (u:ai),oR s fd ⟨[u],[]⟩ [(x,u)])/\
    ∀base:cM,(K w.params).In base->base.Ns bU mg->FnOk l.prog w (K w.params) mg base CX0 k fa fd [x] (spD (K w.params) 1 m .i))
  (hm:∀ns:List Int,ns.length<=63->m [.list (ns.map .int)]=cz (.bool rp)) :
  PySem.W.WalkO q loose XP YP l.row.toRowW d [] (λf vs=>AG f vs):=
 b3a (n:=63) (k:=k) (x:=x) (CX:=λ_=>CX0) (sp:=λw=>spD (K w.params) 1 m .i) hn (by decide) xj hr hY hT F
  (λw H a ns hl hS=>⟨_,_,rfl,denAll_cons (den_list hS (DenAll.ints ns)) denAll_nil,hm ns hl,λv H' fp _ o _ _=>(a2N o).2.2.bool_inv⟩) λ_ _ _ _ _ z=>z
end VS
namespace VS
open PySem.Spec L2
def D0:∀(U ds:List D),b8 U=cz ds->ds.length=0:=λ_ _ h=>by cases h;rfl
def l7(hr:∀(U ds:List D),r U=cz ds->ds.length=n):∀(U ds:List D),a6 f r U=cz ds->ds.length=n+1:=λ_ _ h=>b0N hr h
def a8a:∀(U ds:List D),iI fi U=cz ds->∀d∈ds,mI d:=λU ds h d hd=>by
 have:=a4z rfl U ds h d hd [d] rfl;show imm d=rp;simpa only [c7,gy]using this
def b6i:∀(U ds:List D),iR fa U=cz ds->∀d∈ds,mI d:=λU ds h d hd=>by
 have:=a6x rfl U ds h d hd [d] rfl;show imm d=rp;simpa only [c7,gy]using this
def b0V(h:cM)(hb:fA<h.objs.size):ObjOk P w H (h.push {cls:=.type "dict",data:=.dict #[]}) h.objs.size (f9 h.objs.size []):=
 ⟨⟨jF.mpr (fm (bO hb)),bL _,bE,_,#[],0,bz _ rfl,⟨rfl,rfl,rfl⟩,rfl,.nil⟩,⟨_,bz _ rfl⟩,λx1 x2 ⟨a1,a2,a3,o',rG,sJ,b1,b2⟩ hk=>⟨a1,a2,a3,o',rG,sJ,hk _ b1,b2⟩⟩
end VS
namespace VS
open L2
section
variable {a b c:EvE}{U U':List D}{d x y:D}
def l1(g:D->Option D):Option D->Option D
 |some x=>g x
 |none=>p4
def l2(g:D->D->Option D):Option D->Option D->Option D
 |some x,cz y=>g x y
 |_,_=>p4
def lc(m:List D->Option D):Option (List D)->Option D
 |some xs=>m xs
 |none=>p4
def b3b:Option D->Option (List D)->Option (List D)
 |some x,cz xs=>cz (x::xs)
 |_,_=>p4
def lB:Option D->Option Bool
 |some d=>asB d
 |none=>p4
def lT:Option D->Option Bool
 |some d=>tr d
 |none=>p4
def c1w:Option Bool->Option Bool
 |some b=>cz !b
 |none=>p4
def b9h:Option Bool->EvT->List D->Option Bool
 |some rp,b,U=>b U
 |some xn,_,_=>cz xn
 |none,_,_=>p4
def orT:Option Bool->EvT->List D->Option Bool
 |some rp,_,_=>cz rp
 |some xn,b,U=>b U
 |none,_,_=>p4
def b9i:Option D->EvE->List D->Option D
 |some (.bool rp),b,U=>b U
 |some (.bool xn),_,_=>cz (.bool xn)
 |_,_,_=>p4
def orE:Option D->EvE->List D->Option D
 |some (.bool rp),_,_=>cz (.bool rp)
 |some (.bool xn),b,U=>b U
 |_,_,_=>p4
def c1x:Option D->Option D
 |some (.bool b)=>cz (.bool !b)
 |_=>p4
def b9j:Option Bool->EvE->EvE->List D->Option D
 |some rp,a,_,U=>a U
 |some xn,_,b,U=>b U
 |none,_,_,_=>p4
def b9k:Option Bool->EvS->EvS->List D->Option Out
 |some rp,a,_,U=>a U
 |some xn,_,b,U=>b U
 |none,_,_,_=>p4
def thn:Option Out->EvS->Option Out
 |some (.nx U),b=>b U
 |some (.rt d),_=>cz (.rt d)
 |some (.bk U),_=>cz (.bk U)
 |some (.ct U),_=>cz (.ct U)
 |none,_=>p4
def b6j(i:Nat):Option D->List D->Option Out
 |some d,U=>cz (.nx (U.set i d))
 |none,_=>p4
def retS:Option D->Option Out
 |some d=>cz (.rt d)
 |none=>p4
def exS:Option D->List D->Option Out
 |some _,U=>cz (.nx U)
 |none,_=>p4
def b3c(i j:Nat):Option D->List D->Option Out
 |some (.tuple [x,y]),U=>cz (.nx ((U.set i x).set j y))
 |_,_=>p4
def c1y(set:List D->D->Option (List D))(g:EvS):Option (List D)->List D->Option Out
 |some ds,U=>U7 set g ds U
 |none,_=>p4
def a2X:Option Out->Option D
 |some (.rt d)=>cz d
 |_=>p4
def listE:Option (List D)->Option D
 |some ds=>cz (.list ds)
 |none=>p4
def c1z:Option (List D)->Option D
 |some ds=>cz (.tuple ds)
 |none=>p4
def c3k:l1 g (cz x)=g x:=rfl
def b9l:l2 g (cz x) (cz y)=g x y:=rfl
def c3l:lc m (cz xs)=m xs:=rfl
def b6k:b3b (cz x) (cz xs)=cz (x::xs):=rfl
def c3m:lB (cz (.bool k))=cz k:=rfl
def c3n:lT (cz d)=tr d:=rfl
def b9m:c1w (cz k)=cz !k:=rfl
def b9n:b9h (cz rp) t U=t U:=rfl
def b9o:b9h (cz xn) t U=cz xn:=rfl
def c1A:orT (cz rp) t U=cz rp:=rfl
def c1B:orT (cz xn) t U=t U:=rfl
def b9p:b9i (cz (.bool rp)) b U=b U:=rfl
def b9q:b9i (cz (.bool xn)) b U=cz (.bool xn):=rfl
def c1C:orE (cz (.bool rp)) b U=cz (.bool rp):=rfl
def c1D:orE (cz (.bool xn)) b U=b U:=rfl
def b9r:c1x (cz (.bool k))=cz (.bool !k):=rfl
def b9s:b9j (cz rp) a b U=a U:=rfl
def b9t:b9j (cz xn) a b U=b U:=rfl
def b9u:b9k (cz rp) s t U=s U:=rfl
def b9v:b9k (cz xn) s t U=t U:=rfl
def a5y:thn (cz (.nx U)) s=s U:=rfl
def b9w:thn (cz (.rt d)) s=cz (.rt d):=rfl
def b9x:thn (cz (.bk U)) s=cz (.bk U):=rfl
def b9y:thn (cz (.ct U)) s=cz (.ct U):=rfl
def b3d:b6j i (cz d) U=cz (.nx (U.set i d)):=rfl
def b9z:retS (cz d)=cz (.rt d):=rfl
def c1E:exS (cz d) U=cz (.nx U):=rfl
def b6l:b3c i j (cz (.tuple [x,y])) U=cz (.nx ((U.set i x).set j y)):=rfl
def b9A{set:List D->D->Option (List D)}:c1y set g (cz ds) U=U7 set g ds U:=rfl
def b9B:a2X (cz (.rt d))=cz d:=rfl
def a9y:listE (cz ds)=cz (.list ds):=rfl
def b9C:c1z (cz ds)=cz (.tuple ds):=rfl
def v_var:a4 i U=cz (U.getD i .none):=rfl
def v_c:eC d U=cz d:=rfl
def v_1:e1 g a U=l1 g (a U):=by unfold e1;cases a U<;>rfl
def v_2:e2 g a b U=l2 g (a U) (b U):=by unfold e2;cases a U<;>cases b U<;>rfl
def c3o:eCl m f U=lc m (f U):=by unfold eCl;cases f U<;>rfl
def b9D:a6 a r U=b3b (a U) (r U):=by unfold a6;cases a U<;>cases r U<;>rfl
def b8b:b8 U=cz []:=rfl
def c3p:tB a U=lB (a U):=by unfold tB;cases a U<;>rfl
def c3q:tV a U=lT (a U):=by unfold tV;cases a U<;>rfl
def c1F:tNo t U=c1w (t U):=by unfold tNo;cases t U<;>rfl
def c1G:tAn s t U=b9h (s U) t U:=by
 unfold tAn;cases s U with
 |none=>rfl
 |some k=>cases k<;>rfl
def c1H:b0K s t U=orT (s U) t U:=by
 unfold b0K;cases s U with
 |none=>rfl
 |some k=>cases k<;>rfl
def v_and:b5W a b U=b9i (a U) b U:=by
 unfold b5W;cases h:a U with
 |none=>rfl
 |some d=>cases d with
  |bool k=>cases k<;>rfl
  |_=>rfl
def v_or:eOr a b U=orE (a U) b U:=by
 unfold eOr;cases h:a U with
 |none=>rfl
 |some d=>cases d with
  |bool k=>cases k<;>rfl
  |_=>rfl
def v_not:b5X a U=c1x (a U):=by
 unfold b5X;cases h:a U with
 |none=>rfl
 |some d=>cases d<;>rfl
def c3r:eIf t a b U=b9j (t U) a b U:=by
 unfold eIf;cases t U with
 |none=>rfl
 |some k=>cases k<;>rfl
def b8c:x6 f U=listE (f U):=by unfold x6;cases f U<;>rfl
def c1I:a0F f U=c1z (f U):=by unfold a0F;cases f U<;>rfl
def Z5:f7 s t U=thn (s U) t:=by
 unfold f7;cases s U with
 |none=>rfl
 |some o=>cases o<;>rfl
def b3e:i5 i a U=b6j i (a U) U:=by unfold i5;cases a U<;>rfl
def a9z:v5 a U=retS (a U):=by unfold v5;cases a U<;>rfl
def c3s:sEx a U=exS (a U) U:=by unfold sEx;cases a U<;>rfl
def b9E:E3 U=cz (.nx U):=rfl
def c1J:sIf t s s' U=b9k (t U) s s' U:=by
 unfold sIf;cases t U with
 |none=>rfl
 |some k=>cases k<;>rfl
def a6A{set:List D->D->Option (List D)}:y6 fi set g U=c1y set g (fi U) U:=by unfold y6;cases fi U<;>rfl
def b9F:b7Z i j a U=b3c i j (a U) U:=by
 unfold b7Z;cases h:a U with
 |none=>rfl
 |some d=>
  match d with
  |.tuple [x,y]=>rfl
  |.tuple []=>rfl
  |.tuple [_]=>rfl
  |.tuple (_::_::_::_)=>rfl
  |.none=>rfl
  |.bool _=>rfl
  |.int _=>rfl
  |.str _=>rfl
  |.list _=>rfl
  |.dict _=>rfl
def A7(h:argsOk us ds=rp):fnD us n g ds=a2X (g (ds++aI n .none)):=by
 unfold fnD;rw[aE h];cases g (ds++aI n .none) with
 |none=>rfl
 |some o=>cases o<;>rfl
def v_add:G6 (.int i) (.int j)=cz (.int (i+j)):=rfl
def v_sub:Y7 (.int i) (.int j)=cz (.int (i-j)):=rfl
def v_lt:dLt (.int i) (.int j)=cz (.bool (decide (i<j))):=rfl
def c3t:dLe (.int i) (.int j)=cz (.bool (decide (i<=j))):=rfl
def c3u:dGt (.int i) (.int j)=cz (.bool (decide (j<i))):=rfl
def c3v:dGe (.int i) (.int j)=cz (.bool (decide (j<=i))):=rfl
def v_mod(h:0<j):K4 (.int i) (.int j)=cz (.int (i % j)):=by
 show (if b8Y i j=rp then _ else _)=_;rw[aE (show b8Y i j=rp from aV h)]
def v_div(h:0<j)(h':j<1073741824):b5T (.int i) (.int j)=cz (.int (i / j)):=by
 show (if b5S i j=rp then _ else _)=_;rw[aE (by unfold b5S;rw[aV h,aV h'];rfl)]
def a1l{i j:Int}(h:i.natAbs<2^64):a0C (.int i) (.int j)=cz (.int (i*j)):=by
 show (if b0H i j=rp then _ else _)=_;rw[aE (by unfold b0H;rw[aV h];rfl)]
def a5z{i j:Int}(h:j.natAbs<2^64):a0C (.int i) (.int j)=cz (.int (i*j)):=by
 show (if b0H i j=rp then _ else _)=_;rw[aE (by unfold b0H;rw[aV h,Bool.or_true])]
def v_pow(h:b0I i j=rp):b0J (.int i) (.int j)=cz (.int (i^j.toNat)):=by
 show (if b0I i j=rp then _ else _)=_;rw[aE h]
def c1K:dEq (.int i) (.int j)=cz (.bool (decide (i=j))):=by
 show cz (cL (xn !=aR (.int i) (.int j)))=_;have:aR (.int i) (.int j)=decide (i=j):=by
  show (i==j)=decide (i=j);exact gB i j
 rw[this];simp
def c1L:dNe (.int i) (.int j)=cz (.bool (!decide (i=j))):=by
 show cz (cL (rp !=aR (.int i) (.int j)))=_;have:aR (.int i) (.int j)=decide (i=j):=by
  show (i==j)=decide (i=j);exact gB i j
 rw[this];simp
def b9G:z0 [.list ds]=cz (.int ds.length):=rfl
def b9H:z0 [.tuple ds]=cz (.int ds.length):=rfl
def c1M:dIx (.list ds) (.int k)=atI ds k:=rfl
def c1N:dIx (.tuple ds) (.int k)=atI ds k:=rfl
def c1O:a3X (.list ds) (.int k)=atI ds k:=rfl
def c1P:p5 x y=l1 a5q (dIx x y):=by unfold p5;cases dIx x y<;>rfl
def b3f(h:imm d=rp):a5q d=cz d:=by unfold a5q;rw[aE h]
def c1Q:c3j k (.bool i) (.bool j)=cz (.bool (k !=(i==j))):=rfl
def Q9:imm (.int i)=rp:=by simp only[imm]
def p8(ns:List Int):c7 (ns.map .int)=rp:=by
 induction ns with
 |nil=>simp only[cX,c7]
 |cons n ns ih=>simp only[aB,c7,imm,ih,eK]
def a1m{α:Type}{xs:List α}(h0:0<=k)(h:k<(xs.length:Int)):atI xs k=cz (xs[k.toNat]'(by lia)):=by
 unfold L2.atI ixN;rw[aE h0,aE h];exact ab (by lia)
def b9I(i:Nat):D->Option D->List D->Option Out
 |.list ds,cz d,U=>if ds.length<1000000 then cz (.nx (U.set i (.list (ds++[d])))) else p4
 |_,_,_=>p4
def c1R:W1 i (.l t) y7 a U=b9I i (U.getD i .none) (a U) U:=by
 unfold W1 y7
 dsimp only[eF]
 cases h:U.getD i .none with
 |list ds=>
  cases a U with
  |none=>rfl
  |some d=>rfl
 |_=>cases a U<;>rfl
def a2Y{ds:List D}(h:ds.length<1000000):b9I i (.list ds) (cz d) U=cz (.nx (U.set i (.list (ds++[d])))):=by
 show (if ds.length<1000000 then cz (Out.nx (U.set i (.list (ds++[d])))) else p4)=_;rw[aE h]
def b0W(h:a U=cz (.int n))(h0:0<=n)(h1:n<2^62):iR a U=cz (E1 0 n.toNat):=by
 unfold iR;rw[h];show (if -(2^62)<=n/\n<2^62 then cz (E1 0 n.toNat) else p4)=_;rw[aE ⟨by lia,h1⟩]
def a8b:(E1 lo n).length=n:=by unfold E1;simp
end
end VS
namespace VS
open PySem.Spec L2
noncomputable def fnN(us:List Ty)(n:Nat)(g:EvS):List D->Option D:=λds=>if argsOk us ds then (g (ds++aI n .none)).bind λo=>match o with
 |.rt d=>cz d
 |.nx _=>cz .none
 |_=>p4
 else p4
section
variable {X:Cx}{M:List Md}{a:Expr}{fa:EvE}{us:List Ty}{u:Ty}{pos p2:fV}
def b3g(ha:PX X M a fa (.new (.tp us)))(hu:us[j]?=cz u:=by rfl):PX X M (.Subscript a (.Constant (.int (j:Nat)) c p2) pos) (e2 dIx fa (eC (.int (j:Nat)))) (.new u):=by
 obtain⟨ta,pa,qa⟩:=ha.out;refine .mk ⟨_,a9p a5s pa a7C (λ_ _=>rfl),λU Y H P F d Q S hf q=>?_⟩;obtain⟨x,y,h1,h2,h3⟩:=B8 hf;cases h2
 refine qa U Y H P F x _ S h1 λv H1 e1 qz=>?_
 obtain⟨fp,o,n,fr⟩:=qz;simp only[Own]at o;rcases o with⟨_,⟨hi,hn⟩,_⟩|⟨p,xs,ds,rfl,hp,zB,rfl,ot⟩
 ·cases x with
  |tuple ds=>exact (hn _ rfl).elim
  |list ds=>simp only[imm]at hi;cases hi
  |_=>cases h3
 have sH:L2.atI ds (j:Int)=cz d:=h3;unfold L2.atI at sH;obtain⟨k,k1,k2⟩:=bnd sH;have hk:k=j:=by
  unfold ixN at k1;rw[aE (by lia)]at k1;by_cases c:(j:Int)<ds.length
  ·rw[aE c]at k1;have:=aF k1;lia
  ·rw[aM c]at k1;cases k1
 subst hk;obtain⟨v1,f,pre,post,z1,z2,z3,_⟩:=ot.zip hu k2;subst z3;have hlen:xs.length=ds.length:=by rw[ot.len.1,ot.len.2]
 refine .inr ⟨p,xs,(k:Int),v1,rfl,rfl,SqT.of hp,?_,q v1 H1 e1 ⟨f,z2.frame (C7 λa ha=>?_) u λ_ _=>rfl,?_,λa ha=>fr a ?_⟩⟩
 ·unfold L2.atI;rw[hlen,k1];exact z1
 ·rcases ay.mp ha with z|z
  ·exact ak _ (aj _ (ak _ z))
  ·exact aj _ z
 ·exact n.sublist ((kQ f post).trans (se pre _))
 ·exact aj _ (ak _ ha)
end
open PyProof.Rows in
def b3h{P:bA}{w:bQ}{K:ag}{mg:bM->Option ai}{base:cM}{x:bM}{st:iO}{f:aC}{fd:dU}{N ps:List bM}{k n:Nat}{us:List Ty}{u:Ty}{g:EvS}{M':List Md}(F:Fun K x x st f fd)(S:FnScope N ps (f8 st))(oX:us.length=ps.length)(hn:N.length=ps.length+n)
  (hb:∀(gH:ai) (A:bN) (outer:List pH) (s:ao) (H:Hp) (E:XK),Room k (A.deeper (jD x (f8 st) s.heap.objs.size f gH))->PSsX (a0z CX0 P w K mg base N x (f8 st) f gH A outer s H E).nox .i [] (us.map .own++aI n .dead) (u7 st) g M') (hu:u=.i:=by rfl) :
  FnOk P w K mg base CX0 (k+1) f fd ps (spD K ps.length (fnN us n g) u):=by
 subst hu;refine F.ok S (λvs H Q E h=>?_) (λgH A outer s H vs Q E hr h=>?_)
 ·obtain⟨ds,d,hl,_⟩:=h;exact hl
 obtain⟨ds,d,hl,hd,hm,q⟩:=h;obtain⟨t,p,r⟩:=(hb gH A outer s H E hr).out;refine⟨t,p,?_⟩;unfold fnN at hm;by_cases ha:argsOk us ds=rp
 ·rw[aE ha]at hm;obtain⟨o,h1,h2⟩:=bnd hm;have e:L2.start N vs=vs.map cz++aI n p4:=by
   unfold L2.start;rw[show N.length-vs.length=n by lia]
  have S0:StR K (us.map .own++aI n .dead) (ds++aI n iQ) (vs.map cz++aI n p4) H H []:=⟨⟨[],Q8 ha hd n,bE,λa ha=>(nomatch ha)⟩,λa ha=>(nomatch ha),by rw[H9];exact Same.refl H⟩;cases o with
  |rt d'=>
   have ox:cz d'=cz d:=h2;cases ox
   rw[e];exact r _ (ds++aI n iQ) _ H H [] (.rt d) S0 h1 λv H' fp o nd fr e=>q v H' fp e o nd fr
  |nx U=>
   have ox:cz iQ=cz d:=h2;cases ox
   rw[e];refine r _ (ds++aI n iQ) _ H H [] (.nx U) S0 h1 λY' H' F' S'=>?_
   refine q .non H' [] (S'.prot.trans j6) ?_ bE λa ha=>(nomatch ha)
   simp only[Own];exact⟨trivial,by simp only[imm],den_none⟩
  |_=>cases h2
 ·rw[aM ha]at hm;cases hm
def K7:∀{l:List α} {l':List β},gr R l l'->∀{j:Nat} {x:α},l[j]?=cz x->∃y,l'[j]?=cz y/\R x y:=by
 intro l l' h
 induction h with
 |nil=>intro j x e;simp at e
 |cons r _ ih=>
  intro j x e;cases j with
  |zero=>cases e;exact⟨_,rfl,r⟩
  |succ j=>exact ih (by simpa using e)
def a1Q:∀{l:List α} {l':List β},gr R l l'->∀{j:Nat} {y:β},l'[j]?=cz y->∃x,l[j]?=cz x/\R x y:=by
 intro l l' h
 induction h with
 |nil=>intro j x e;simp at e
 |cons r _ ih=>
  intro j x e;cases j with
  |zero=>cases e;exact⟨_,rfl,r⟩
  |succ j=>exact ih (by simpa using e)
section
variable {X:Cx}{pins:List (aC×gc)}{Y:L2.St}{H:Hp}{s:ao}{A:bN}{E:ai->ao->Prop}{a:aC}{es:List (D×V×V)}{o:gc}{ents:Array iS}{ep:Nat}{kt:Bool}{k:D}{kv:V}{key:ai}
def a1n(I:Inv X pins Y H s)(kk:keyOk kt k)(dk:Den X.K H kv k)(rk:RelV kv key):∃as,Reads s.heap key k as:=Den.reads I k (V2 _ kk.1) dk rk
def a1o(I:Inv X pins Y H s)(hu:A.units+10<dF)(kk:keyOk kt k)(dk:Den X.K H kv k)(rk:RelV kv key)(h:Q (hashD k) {s with toks:=s.toks+s9 k}):aW (a_ X.prog X.w) A (pyHash key) Q E s:=by
 obtain⟨as,r⟩:=a1n I kk dk rk;exact a2K k kk.1 (by have:=kk.2.1;lia) r h
def a1p(I:Inv X pins Y H s)(hu:A.units+10<dF)(ho:s.heap.get? a=cz o)(hd:o.data=.dict ents ep)(hp:gr Z4 es ents.toList)(hn:(es.map (·.1)).Nodup)(hk:∀e∈es,keyOk kt e.1/\Den X.K H e.2.1 e.1)
  (kk:keyOk kt k) (dk:Den X.K H kv k) (rk:RelV kv key) (kB:(∀e∈es,e.1≠k)->Q p4 s) (kA:∀j e,es[j]?=cz e->e.1=k->Q (cz j) s) :
  aW (a_ X.prog X.w) A (dictFind a key (hashD k)) Q E s:=by
 cases kt with
 |false=>
  obtain⟨i,rfl⟩:=kk.2.2.2 rfl;cases dk.int_inv
  obtain⟨t,rfl⟩:=rk;have ent:∀(j:Nat) (x:iS),ents.toList[j]?=cz x->∃e n u,es[j]?=cz e/\e.1=.int n/\x.key=.int n u/\x.hash=hashInt n:=λj x hx=>by
   obtain⟨e,he,h1,h2,_⟩:=a1Q hp hx;obtain⟨k1,k2⟩:=hk e (bo he);obtain⟨n,en⟩:=k1.2.2.2 rfl;rw[en]at k2 h1;have e2:=k2.int_inv;rw[e2]at h2;obtain⟨u,rY⟩:=h2;exact⟨e,n,u,he,en,rY,by simpa[hashD]using h1⟩
  show aW (a_ X.prog X.w) A (dictFind a (.int i t) ((fH X.prog X.w).hash i)) Q E s;refine wpAny_dictFind_of (knd:=fH X.prog X.w) (k:=i) (by simp[fH,jY]) ho hd (λx hx=>?_) ?_
  ·obtain⟨j,hj⟩:=cW.mp (fS.mpr hx);obtain⟨e,n,u,_,_,h3,h4⟩:=ent j x hj;exact⟨n,by rw[h3];simp[fH,jY],h4⟩
  ·cases hf:ents.findIdx? λe=>(fH X.prog X.w).is i e.key with
   |none=>
    refine kB λe he gv=>?_
    obtain⟨j,hj⟩:=cW.mp he;obtain⟨x,hx,_⟩:=K7 hp hj;obtain⟨e',n,u,h1,h2,h3,_⟩:=ent j x hx;rw[hj]at h1;cases h1
    rw[gv]at h2;cases h2
    have:=Array.findIdx?_eq_none_iff.mp hf x (fS.mp (bo hx));rw[h3]at this;simp[fH,jY]at this
   |some j=>
    obtain⟨jN,wm,_⟩:=Array.findIdx?_eq_some_iff_getElem.mp hf;have hx:ents.toList[j]?=cz ents[j]:=by simp[jN]
    obtain⟨e,n,u,h1,h2,h3,_⟩:=ent j _ hx;have wM:n=i:=by
     rw[h3]at wm;simpa[fH,jY]using wm
    subst wM;exact kA j e h1 h2
 |true=>
  obtain⟨ds,rfl⟩:=kk.2.2.1 rfl;obtain⟨p,vS,rfl,_,_⟩:=dk.tup_inv;cases (show key=bt p from rk)
  obtain⟨as,CD⟩:=a1n I kk (dk) (show RelV (.ref p) (.ref p) from rfl);have build:∀{es:List (D×V×V)} {l:List iS},gr Z4 es l->(∀e∈es,keyOk rp e.1/\Den X.K H e.2.1 e.1)->∃xs:List (D×aC×ai),l=xs.map (λx=>(⟨hashD x.1,.ref x.2.1,x.2.2⟩:iS))/\xs.map (·.1)=es.map (·.1)/\∀x∈xs,A1 x.1=rp/\x.1.depth<=7/\∃as,Reads s.heap (.ref x.2.1) x.1 as:=by
   intro es l hp
   induction hp with
   |nil=>exact λ_=>⟨[],rfl,rfl,λx hx=>(nomatch hx)⟩
   |@cons e x es l r _ ih=>
    intro hk;obtain⟨xs,i1,i2,i3⟩:=ih λe he=>hk e (ar _ he)
    obtain⟨k1,k2⟩:=hk e aK;obtain⟨as,rr⟩:=a1n I k1 k2 r.2.1;obtain⟨ds,ed⟩:=k1.2.2.1 rfl;have:∃q,x.key=.ref q:=by
     rw[ed]at rr;cases Bg:x.key with
     |ref q=>exact⟨q,rfl⟩
     |_=>rw[Bg]at rr;cases rr
    obtain⟨q,hq⟩:=this;refine⟨(e.1,q,x.val)::xs,?_,by rw[aB,aB,i2],λy hy=>?_⟩
    ·rw[aB,<-i1]
     congr 1;obtain⟨xh,xk,xv⟩:=x;simp only at hq;rw[show xh=hashD e.1 from r.1,hq]
    ·rcases aN.mp hy with z|z
     ·subst z;exact⟨k1.1,k1.2.1,as,by rw[hq]at rr;exact rr⟩
     ·exact i3 y z
  obtain⟨xs,x1,x2,x3⟩:=build hp hk;have idx:∀(j:Nat) (kk:D),(∃p,xs[j]?=cz (kk,p))↔∃e,es[j]?=cz e/\e.1=kk:=λj kk=>by
   have:(xs.map (·.1))[j]?=(es.map (·.1))[j]?:=by rw[x2]
   rw[aQ,aQ]at this
   constructor
   ·rintro⟨q,hq⟩;rw[hq]at this;cases he:es[j]? with
    |none=>rw[he]at this;cases this
    |some e=>rw[he]at this;exact⟨e,rfl,(aF this).symm⟩
   ·rintro⟨e,he,hk⟩;rw[he]at this;cases hx:xs[j]? with
    |none=>rw[hx]at this;cases this
    |some x=>
     rw[hx]at this;have e1:x.1=e.1:=aF this;exact⟨x.2,by rw[<-hk,<-e1]⟩
  refine @wpAny_dictFind_heap X.prog X.w D b0G (b2A X.prog X.w) A E s a p o ents ep xs (.tuple ds) Q (by show A.units+8<dF;lia) ⟨kk.1,kk.2.1,as,CD⟩ ho hd x1 x3 (by rw[x2];exact hn) (λh=>kB λe he gv=>?_) (λj q hj=>?_)
  ·obtain⟨j,hj⟩:=cW.mp he;obtain⟨q,hq⟩:=(idx j (.tuple ds)).mpr ⟨e,hj,gv⟩;exact h j q hq
  ·obtain⟨e,he,gv⟩:=(idx j (.tuple ds)).mp ⟨q,hj⟩;exact kA j e he gv
end
def y8(es:List (D×V×V))(k:D):Bool:=es.any λe=>aR e.1 k
def a0L(es:List (D×V×V))(k:D)(kv v:V):List (D×V×V):=if y8 es k then es.map λe=>if aR e.1 k then (e.1,e.2.1,v) else e else es++[(k,kv,v)]
section
variable {X:Cx}{pins:List (aC×gc)}{Y:L2.St}{H:Hp}{s:ao}{A:bN}{E:ai->ao->Prop}{a:aC}{es:List (D×V×V)}{kt:Bool}{k:D}{kv v:V}{key val:ai}
def v6(I:Inv X pins Y H s)(h:H a=cz (f9 a es)):(a==fA)=xn/\es.length<=br/\(es.map (·.1)).Nodup/\∃o ents ep,s.heap.get? a=cz o/\o.ExactDict/\o.data=.dict ents ep/\gr Z4 es ents.toList:=
 (show ObjOk X.prog X.w H s.heap a (f9 a es) from I.hok a _ h).1
def o7(I:Inv X pins Y H s)(h:H a=cz (f9 a es)):s.TypeIs (.ref a) "dict":=by
 obtain⟨_,_,_,o,ents,ep,h1,h2,_⟩:=v6 I h;exact⟨o,h1,h2.1⟩
def a0M(I:Inv X pins Y H s)(h:H a=cz (f9 a es)):∀b,bt a=.ref b->∃ob,s.heap.get? b=cz ob/\ob.dict=p4:=λb q=>by
 cases q
 obtain⟨_,_,_,o,ents,ep,h1,h2,_⟩:=v6 I h;exact⟨o,h1,h2.2.1⟩
def a1q{P:bA}{w:bQ}{H':Hp}{h':cM}(hs:(a==fA)=xn)(hl:es.length<=br)(hn:(es.map (·.1)).Nodup){o:gc}{ents:Array iS}{ep:Nat}(h1:h'.get? a=cz o)(h2:o.ExactDict)(h3:o.data=.dict ents ep)(h4:gr Z4 es ents.toList):ObjOk P w H' h' a (f9 a es):=
 ⟨⟨hs,hl,hn,o,ents,ep,h1,h2,h3,h4⟩,⟨o,h1⟩,λx1 x2 ⟨a1,a2,a3,o',rG,sJ,b1,b2⟩ hk=>⟨a1,a2,a3,o',rG,sJ,hk _ b1,b2⟩⟩
structure KeysAt (X:Cx) (H:Hp) (kt:Bool) (es:List (D×V×V)) (k:D) (kv:V):Prop where
 keys:∀e∈es,keyOk kt e.1/\Den X.K H e.2.1 e.1
 key:keyOk kt k
 den:Den X.K H kv k
def KeysAt.eqv(K:KeysAt X H kt es k kv){e:D×V×V}(he:e∈es):aR e.1 k=rp↔e.1=k:=V3 e.1 k (K.keys e he).1.1 K.key.1
def get_dict(I:Inv X pins Y H s)(hu:A.units+10<dF)(h:H a=cz (f9 a es))(K:KeysAt X H kt es k kv)(rk:RelV kv key) 
  (kB:y8 es k=xn->∀s',Inv X pins Y H s'->Q p4 s') (kA:∀e∈es,e.1=k->∀x s',Inv X pins Y H s'->RelV e.2.2 x->Q (cz x) s') :
  aW (a_ X.prog X.w) A (FC a key) Q E s:=by
 obtain⟨_,_,hn,o,ents,ep,h1,h2,h3,h4⟩:=v6 I h;unfold FC
 try with_reducible refine cK ?_
 refine ae (a1o I hu K.key K.den rk (ae (a1p (s:={s with toks:=s.toks+s9 k}) (I.tok (s.toks+s9 k)) hu h1 h3 h4 hn K.keys K.key K.den rk ?_ ?_)))
 ·intro qy;refine aA (kB ?_ _ (I.tok _));unfold y8;rw[fQ];exact λe he hq=>qy e he ((K.eqv he).mp hq)
 ·intro j e he gv;obtain⟨x,hx,r⟩:=K7 h4 he;refine ae (gX (s:={s with toks:=s.toks+s9 k}) h1 h3 ?_);have:ents[j]?=cz x:=by rw[<-bh];exact hx
  rw[this];exact aA (kA e (bo he) gv _ _ (I.tok _) r.2.2)
def a2Z(hf:y8 es k=xn):a0L es k kv v=es++[(k,kv,v)]:=by unfold a0L;rw[hf];rfl
def a8c{α β:Type}{R:α->β->Prop}{l:List α}{l':List β}(h:gr R l l'){x:α}{y:β}(r:R x y):gr R (l++[x]) (l'++[y]):=by
 induction h with
 |nil=>exact .cons r .nil
 |cons q _ ih=>exact .cons q ih
def b0X(K:KeysAt X H kt es k kv)(hn:(es.map (·.1)).Nodup)(hf:y8 es k=xn):((es++[(k,kv,v)]).map (·.1)).Nodup:=by
 rw[aT,bV];refine⟨hn,by simp,λx hx y hy e=>?_⟩;simp only[aB,cX,aq]at hy;subst hy;subst e;obtain⟨e,he,rfl⟩:=aG.mp hx;unfold y8 at hf;rw[fQ]at hf;exact hf e he ((K.eqv he).mpr rfl)
def a4B(I:Inv X pins Y H s)(h:H a=cz (f9 a es))(K:KeysAt X H kt es k kv)(rk:RelV kv key)(rv:RelV v val)(hl:es.length<br)(hf:y8 es k=xn){t':Nat}{o:gc}{ents:Array iS}{ep:Nat}(h1:s.heap.get? a=cz o)(h2:o.ExactDict)(h3:o.data=.dict ents ep)(h4:gr Z4 es ents.toList) :
  Inv X pins Y (upd H a (f9 a (es++[(k,kv,v)]))) {s with heap:=s.heap.update a (·.mapDictKeys (·.push ⟨hashD k,key,val⟩)),toks:=t'}:=by
 obtain⟨hs,_,hn,_⟩:=v6 I h;refine I.write (x:=a) (e:=a) (by rw[h];exact jZ) (.inl rfl) (λb q hb z=>((dX ..).2 b hb).trans z) ⟨_,eO _ h1 (kE (oF h3 _))⟩ ?_;refine a1q hs (by simp;lia) (b0X K hn hf) (eO _ h1 (kE (oF h3 _))) (h2.mapDictKeys _) (oF h3 _) ?_;have:=a8c h4 (x:=(k,kv,v)) (y:=⟨hashD k,key,val⟩) ⟨rfl,rk,rv⟩;obtain⟨l⟩:=ents;simpa using this
def b0Y(I:Inv X pins Y H s)(hu:A.units+10<dF)(h:H a=cz (f9 a es))(K:KeysAt X H kt es k kv)(rk:RelV kv key)(rv:RelV v val)(hl:es.length<br){Q:ai->ao->Prop}
  (kB:y8 es k=xn->∀s',Inv X pins Y (upd H a (f9 a (es++[(k,kv,v)]))) s'->Q val s') (kA:∀e∈es,e.1=k->∀x s',Inv X pins Y H s'->RelV e.2.2 x->Q x s') :
  aW (a_ X.prog X.w) A (xF a key val) Q E s:=by
 obtain⟨_,_,hn,o,ents,ep,h1,h2,h3,h4⟩:=v6 I h;have oN:ents.size<=br:=by
  have:=gQ h4;have e2:ents.toList.length=ents.size:=by simp
  lia
 unfold xF
 try with_reducible refine cK ?_
 refine ae (a1o I hu K.key K.den rk (ae (a1p (s:={s with toks:=s.toks+s9 k}) (I.tok (s.toks+s9 k)) hu h1 h3 h4 hn K.keys K.key K.den rk ?_ ?_)))
 ·intro qy;have hf:y8 es k=xn:=by
   unfold y8;rw[fQ];exact λe he hq=>qy e he ((K.eqv he).mp hq)
  refine ae (kX (ae (wpAny_updateDictKeys (hz:=oN) (s:={s with toks:=s.toks+s9 k}) h1 h3 (aA (kB hf _ (a4B (t':=s.toks+s9 k) I h K rk rv hl hf h1 h2 h3 h4))))))
 ·intro j e he gv;obtain⟨x,hx,r⟩:=K7 h4 he;refine ae (gX (s:={s with toks:=s.toks+s9 k}) h1 h3 ?_);have:ents[j]?=cz x:=by rw[<-bh];exact hx
  rw[this];exact ae (kX (aA (kA e (bo he) gv _ _ (I.tok (s.toks+s9 k)) r.2.2)))
def a8d(hp:gr Z4 es l)(hn:(es.map (·.1)).Nodup)(hk:∀e∈es,aR e.1 k=rp↔e.1=k)(rv:RelV v val):∀{j:Nat} {e:D×V×V},es[j]?=cz e->e.1=k->
  gr Z4 (es.map λe=>if aR e.1 k then (e.1,e.2.1,v) else e) (l.modify j λx=>{x with val:=val}):=by
 induction hp with
 |nil=>intro j e he;simp at he
 |@cons e0 x es l r hp ih=>
  intro j e he gv;rw[aB,cF]at hn;have sA:∀e∈es,aR e.1 k=rp↔e.1=k:=λe he=>hk e (ar _ he)
  cases j with
  |zero=>
   cases he
   have h0:aR e0.1 k=rp:=(hk _ aK).mpr gv;have jS:es.map (λe=>if aR e.1 k then (e.1,e.2.1,v) else e)=es:=by
    have:∀e'∈es,(if aR e'.1 k then (e'.1,e'.2.1,v) else e')=e':=λe' mw=>by
     rw[aM];intro q;exact hn.1 (by rw[gv,<-(sA e' mw).mp q];exact cY mw)
    rw[bW this,uV]
   rw[aB,aE h0,jS];exact .cons ⟨r.1,r.2.1,rv⟩ hp
  |succ j=>
   have mw:es[j]?=cz e:=by simpa using he
   have i_:¬ aR e0.1 k=rp:=λq=>hn.1 (by rw[(hk _ aK).mp q,<-gv];exact cY (bo mw))
   rw[aB,aM i_];exact .cons r (ih hn.2 sA mw gv)
def a6B{es:List (D×V×V)}:(es.map λe=>if aR e.1 k then (e.1,e.2.1,v) else e).map (·.1)=es.map (·.1):=by
 rw[bC];refine bW λe _=>?_
 show (if aR e.1 k then (e.1,e.2.1,v) else e).1=e.1
 split<;>rfl
def set_dict(I:Inv X pins Y H s)(hu:A.units+10<dF)(h:H a=cz (f9 a es))(K:KeysAt X H kt es k kv)(rk:RelV kv key)(rv:RelV v val)(hl:es.length<br){Q:Unit->ao->Prop}
  (hQ:∀s',Inv X pins Y (upd H a (f9 a (a0L es k kv v))) s'->Q () s'):aW (a_ X.prog X.w) A (dictSet a key val) Q E s:=by
 obtain⟨hs,_,hn,o,ents,ep,h1,h2,h3,h4⟩:=v6 I h;have oN:ents.size<=br:=by
  have:=gQ h4;have e2:ents.toList.length=ents.size:=by simp
  lia
 unfold dictSet
 try with_reducible refine cK ?_
 refine ae (a1o I hu K.key K.den rk ?_);unfold dictSetHashed
 try with_reducible refine cK ?_
 refine ae (a1p (s:={s with toks:=s.toks+s9 k}) (I.tok (s.toks+s9 k)) hu h1 h3 h4 hn K.keys K.key K.den rk ?_ ?_)
 ·intro qy;have hf:y8 es k=xn:=by
   unfold y8;rw[fQ];exact λe he hq=>qy e he ((K.eqv he).mp hq)
  rw[a2Z hf]at hQ;exact ae (kX (wpAny_updateDictKeys (hz:=oN) (s:={s with toks:=s.toks+s9 k}) h1 h3 (hQ _ (a4B (t':=s.toks+s9 k) I h K rk rv hl hf h1 h2 h3 h4))))
 ·intro j e he gv;have hf:y8 es k=rp:=by
   unfold y8;rw[pG];exact⟨e,bo he,(K.eqv (bo he)).mpr gv⟩
  have sJ:a0L es k kv v=es.map λe=>if aR e.1 k then (e.1,e.2.1,v) else e:=by unfold a0L;rw[hf];rfl
  rw[sJ]at hQ;refine ae (kX (ae (wpAny_updateDict (s:={s with toks:=s.toks+s9 k}) h1 h3 (wpAny_point (hQ _ ?_)))));refine I.write (x:=a) (e:=a) (t':=s.toks+s9 k) (by rw[h];exact jZ) (.inl rfl) (λb q hb z=>((dX ..).2 b hb).trans z) ⟨_,eO _ h1 (kE (sR h3 _))⟩ ?_;refine a1q hs (by rw[af];lia) (by rw[a6B];exact hn) (eO _ h1 (kE (sR h3 _))) (h2.mapDict _) (sR h3 _) ?_;have:=a8d h4 hn (λe he=>K.eqv he) rv he gv;obtain⟨l⟩:=ents;simpa using this
end
def b3i(i:Expr):Prop:=∀ov iv,sW i xn ov iv=operate [ov,iv] (rE ov iv)
open PyProof.Rows in
def c3w{prog:bA}{w:bQ}{A:bN}{E:ai->ao->Prop}{s:ao}{env:pH}{value slice:Expr}{pos:fV}{T id:String}{Q:ai->ao->Prop}
  (hl:typeLookup (.type T) "__getitem__"=pure (cz (.builtin id))) (hs:b3i slice)
  (h:aW (a_ prog w) A (cI value env) (λo s₁=>aW (a_ prog w) A (cI slice env) (λi s₂=>s₂.TypeIs o T/\aW (a_ prog w) A (rE o i) Q E s₂) E s₁) E s) :
  aW (a_ prog w) A (cI (.Subscript value slice pos) env) Q E s:=by
 refine PyProof.Rows.Subscript_ (dW h (λo s₁ h₁=>dW h₁ (λi s₂ h₂=>?_) λ_ _ x=>x) λ_ _ x=>x);obtain⟨hT,h₂⟩:=h₂;unfold subscriptTail;refine ae ?_;rw[getitemInPython_of_ne hT.not_modules];refine ae (iJ hT hl ?_);have fin:aW (a_ prog w) A (sW slice xn o i) (λr s₃=>aW (a_ prog w) A (letTemporaryGo value o r >>= λ_=>pure r) Q E s₃) E s₂:=by
  rw[hs o i];exact wpAny_operating (dW h₂ (λr s₃ h₃=>ae (wpAny_letTemporaryGo (aA h₃))) λ_ _ x=>x)
 first
  |exact aA (ae fin)
  |exact ae (aA (ae fin))
  |exact ae fin
section
variable {X:Cx}{pins:List (aC×gc)}{Y:L2.St}{H:Hp}{s:ao}{A:bN}{E:ai->ao->Prop}{a:aC}{es:List (D×V×V)}{kt:Bool}{k:D}{kv v:V}{key val:ai}
def a8e(hu:A.units+12<dF)(I:Inv X pins Y H s)(h:H a=cz (f9 a es))(K:KeysAt X H kt es k kv)(rk:RelV kv key)(hh:y8 es k=rp)
  (hQ:∀e∈es,e.1=k->∀x s',Inv X pins Y H s'->RelV e.2.2 x->Q x s'):aW (a_ X.prog X.w) A (rE (.ref a) key) Q E s:=by
 have hT:=o7 I h;unfold rE
 try with_reducible refine cK ?_
 refine ae (wpAny_sequenceKey hT (by decide) ?_);refine ae (gk (name:=cJ "__getitem__") hT slot_dict_getitem (et slot_dict_getitem hT entry_dict_getitem ?_ (args_dict_getitem _ _)));show aW _ _ (FC a key >>= _) _ _ s;refine ae (get_dict (A:=A.in1) I (by show A.units+1+10<dF;lia) h K rk (λhf=>by rw[hh]at hf;cases hf) λe he gv x s' I' r=>?_);exact aA ⟨x,rfl,aA (hQ e he gv x s' I' r)⟩
def a6C(hu:A.units+12<dF)(I:Inv X pins Y H s)(h:H a=cz (f9 a es))(K:KeysAt X H kt es k kv)(rk:RelV kv key)
  (hQ:∀s',Inv X pins Y H s'->Q (y8 es k) s'):aW (a_ X.prog X.w) A (contains (.ref a) key) Q E s:=by
 have hT:=o7 I h;obtain⟨hd,_⟩:=v6 I h;unfold contains
 try with_reducible refine cK ?_
 refine ae (iJ hT slot_dict_contains.lookup ?_);show aW _ _ (if (cz (ai.builtin "dict.__contains__")==cz bD)=rp then _ else _) _ E s;rw[aM (by rw[beq_builtin_none];exact cu)];refine ae (wpAny_callSpecialUnlessNone?_slot (name:=cJ "__contains__") hT slot_dict_contains (et slot_dict_contains hT entry_dict_contains ?_ (args_dict_contains _ _)));show aW _ _ (FC a key >>= _) _ _ s;refine ae (get_dict (A:=A.in1) I (by show A.units+1+10<dF;lia) h K rk (λhf s' I'=>?_) λe he gv x s' I' r=>?_)
 ·rw[hf]at hQ;show aW _ _ (Builtin.Dict.pendingKey? a key >>= _) _ _ _;exact ae (wpAny_pendingKey_other hd (aA ⟨_,rfl,fw (hQ s' I')⟩))
 ·have hf:y8 es k=rp:=by
   unfold y8;rw[pG];exact⟨e,he,(K.eqv he).mpr gv⟩
  rw[hf]at hQ;show aW _ _ (ret (.bool rp)) _ _ _;exact aA ⟨_,rfl,fw (hQ s' I')⟩
def b3j(hu:A.units+12<dF)(I:Inv X pins Y H s)(h:H a=cz (f9 a es))(K:KeysAt X H kt es k kv)(rk:RelV kv key)
  (hQ:∀s',Inv X pins Y H s'->Q (.bool (!y8 es k)) s'):aW (a_ X.prog X.w) A (cR .NotIn key (.ref a)) Q E s:=by
 show aW _ _ (do return .bool (!(<-contains (.ref a) key))) Q E s;exact ae (a6C hu I h K rk λs' I'=>aA (hQ s' I'))
def a8f(hu:A.units+12<dF)(I:Inv X pins Y H s)(h:H a=cz (f9 a es))(K:KeysAt X H kt es k kv)(rk:RelV kv key)(rv:RelV v val)(hl:es.length<br)
  (hQ:∀s',Inv X pins Y (upd H a (f9 a (a0L es k kv v))) s'->Q () s'):aW (a_ X.prog X.w) A (CA (.ref a) key val) Q E s:=by
 have hT:=o7 I h;unfold CA
 try with_reducible refine cK ?_
 refine ae (wpAny_sequenceKey hT (by decide) ?_);refine ae (gk (name:=cJ "__setitem__") hT slot_dict_setitem (et slot_dict_setitem hT entry_dict_setitem ?_ (args_dict_setitem _ _ _)));show aW _ _ (Builtin.Dict.notOrdered "__setitem__" ⟨[.ref a,key,val],[]⟩ >>= _) _ _ s;refine ae (nz hT ?_);show aW _ _ (dictSet a key val >>= _) _ _ s;exact ae (set_dict (A:=A.in1) I (by show A.units+1+10<dF;lia) h K rk rv hl λs' I'=>aA ⟨.none,rfl,aA (hQ s' I')⟩)
def b3k(hu:A.units+12<dF)(I:Inv X pins Y H s)(h:H a=cz (f9 a es))(K:KeysAt X H kt es k kv)(rk:RelV kv key)
  (kB:y8 es k=xn->∀s',Inv X pins Y H s'->Q .none s') (kA:∀e∈es,e.1=k->∀x s',Inv X pins Y H s'->RelV e.2.2 x->Q x s'):aW (a_ X.prog X.w) A (call (.builtin "dict.get") [.ref a,key]) Q E s:=by
 have hT:=o7 I h;obtain⟨hd,_⟩:=v6 I h;refine et F.slot_dict_get hT F.entry_dict_get ?_ (F.args_dict_get_2 _ _);show aW _ _ (FC a key >>= _) _ _ s;refine ae (get_dict (A:=A.in1) I (by show A.units+1+10<dF;lia) h K rk (λhf s' I'=>?_) λe he gv x s' I' r=>?_)
 ·show aW _ _ (Builtin.Dict.missed a key >>= _) _ _ _;exact ae (wpAny_missed_other hd (aA ⟨.none,rfl,kB hf s' I'⟩))
 ·exact aA ⟨x,rfl,kA e he gv x s' I' r⟩
def b6m(hu:A.units+12<dF)(I:Inv X pins Y H s)(h:H a=cz (f9 a es))(K:KeysAt X H kt es k kv)(rk:RelV kv key)(rv:RelV v val)(hl:es.length<br)
  (kB:y8 es k=xn->∀s',Inv X pins Y (upd H a (f9 a (es++[(k,kv,v)]))) s'->Q val s') (kA:∀e∈es,e.1=k->∀x s',Inv X pins Y H s'->RelV e.2.2 x->Q x s') :
  aW (a_ X.prog X.w) A (call (.builtin "dict.setdefault") [.ref a,key,val]) Q E s:=by
 have hT:=o7 I h;obtain⟨hd,_⟩:=v6 I h;refine et F.slot_dict_setdefault hT F.entry_dict_setdefault ?_ (F.args_dict_setdefault_3 _ _ _);unfold Builtin.«dict.setdefault»;refine ae ?_;unfold Builtin.Dict.keyAndDefault;refine ae (nz hT ?_);show aW _ _ (pure (a,key,cz val)) _ _ s;refine aA ?_;show aW _ _ (if (a==fA)=rp then _ else (xF a key val >>= _)) _ _ s;rw[aM (by rw[hd];exact cu)];exact ae (b0Y (A:=A.in1) I (by show A.units+1+10<dF;lia) h K rk rv hl (λhf s' I'=>aA ⟨_,rfl,kB hf s' I'⟩) λe he gv x s' I' r=>aA ⟨_,rfl,kA e he gv x s' I' r⟩)
def b9J(I:Inv X pins Y H s)(h:H a=cz (f9 a es))(hQ:∀t s',Inv X pins Y H s'->Q (.int es.length t) s'):aW (a_ X.prog X.w) A (call (.builtin "len") [.ref a]) Q E s:=by
 have hT:=o7 I h;obtain⟨hd,hl,_,o,ents,ep,h1,h2,h3,h4⟩:=v6 I h;have oN:ents.size=es.length:=by
  have:=gQ h4;have e2:ents.toList.length=ents.size:=by simp
  lia
 have tw:(es.length:Int)<2^63:=by
  have:br<2^62:=by decide
  lia
 refine Calls.call_function_entry kind_len plain_len entry_len (args_len1 _) ?_;unfold Builtin.«len»;refine ae (m:=oneArg "len" _) (aA ?_);refine ae (m:=callSpecial? (.ref a) (cJ "__len__")) (gk (name:=cJ "__len__") hT F.slot_dict_len (et F.slot_dict_len hT F.entry_dict_len ?_ (F.args_dict_len_1 _)));show aW _ _ (dictSize a >>= _) _ _ s;unfold dictSize;refine ae (ae (gX h1 h3 (aA ?_)));show aW _ _ (Builtin.Dict.pendingCount a >>= _) _ _ s;refine ae (wpAny_pendingCount_other hd ?_);refine wpAny_ret_mkInt ?_;rw[uS,oN];refine ae (cK (aA ?_));refine ae (wpAny_letGo ?_);show aW _ _ (if ((es.length:Nat):Int)<0 then _ else _) _ _ _;rw[aM (by lia)];show aW _ _ (if ((es.length:Nat):Int)≥2^63 then _ else _) _ _ _;rw[aM (by lia)];exact ae (wpAny_mkInt (aA ⟨_,rfl,hQ _ _ (I.tok _)⟩))
end
def D8(kvs:List (D×D))(k:D):Bool:=kvs.any λp=>aR p.1 k
def w6(kvs:List (D×D))(k:D):Option D:=(kvs.find? λp=>aR p.1 k).map (·.2)
def G9(kvs:List (D×D))(k d:D):List (D×D):=if D8 kvs k then kvs.map λp=>if aR p.1 k then (p.1,d) else p else kvs++[(k,d)]
def n6(kt:Bool)(k:D):Bool:=A1 k&&decide (k.depth<=7)&&match k with
 |.tuple _=>kt
 |.int _=>!kt
 |_=>xn
def F5(h:n6 kt k=rp):keyOk kt k:=by
 unfold n6 at h;rw[aL,aL]at h;refine⟨h.1.1,bG h.1.2,λe=>?_,λe=>?_⟩
 ·subst e;cases k with
  |tuple ds=>exact⟨ds,rfl⟩
  |int i=>have:=h.2;simp at this
  |_=>have:=h.2;simp at this
 ·subst e;cases k with
  |int i=>exact⟨i,rfl⟩
  |tuple ds=>have:=h.2;simp at this
  |_=>have:=h.2;simp at this
def dIn(neg kt:Bool):D->D->Option D
 |k,.dict kvs=>if n6 kt k then cz (.bool (neg !=D8 kvs k)) else p4
 |_,_=>p4
def a5A(kt:Bool):D->D->Option D
 |.dict kvs,k=>if n6 kt k then w6 kvs k else p4
 |_,_=>p4
def a3a(kt:Bool):D->D->Option D
 |.dict kvs,k=>if n6 kt k then cz ((w6 kvs k).getD .none) else p4
 |_,_=>p4
def a3b:List D->Option D
 |[.dict kvs]=>cz (.int kvs.length)
 |_=>p4
theorem K8:∀{es:List (D×V×V)} {ds:List D},ds.length=es.length->D8 ((es.map (·.1)).zip ds) k=y8 es k
 |[],ds,_=>by simp[D8,y8]
 |e::es,[],h=>by simp at h
 |e::es,d::ds,h=>by
  have ih:=K8 (k:=k) (es:=es) (ds:=ds) (by simpa using h);unfold D8 y8 at ih ⊢;simp only[aB,dJ,List.any_cons,ih]
theorem a3c:∀{es:List (D×V×V)} {ds:List D} {j:Nat} {e:D×V×V} {d:D},ds.length=es.length->(∀e∈es,aR e.1 k=rp↔e.1=k)->(es.map (·.1)).Nodup->es[j]?=cz e->e.1=k->ds[j]?=cz d->w6 ((es.map (·.1)).zip ds) k=cz d
 |[],ds,j,e,d,_,_,_,he,_,_=>by simp at he
 |e0::es,[],j,e,d,h,_,_,_,_,_=>by simp at h
 |e0::es,d0::ds,0,e,d,h,hk,_,he,gv,hd=>by
  cases he
  cases hd
  have:aR e0.1 k=rp:=(hk _ aK).mpr gv;simp[w6,this]
 |e0::es,d0::ds,j+1,e,d,h,hk,hn,he,gv,hd=>by
  rw[aB,cF]at hn;have mw:es[j]?=cz e:=by simpa using he
  have jO:ds[j]?=cz d:=by simpa using hd
  have ih:=a3c (k:=k) (by simpa using h) (λe he=>hk e (ar _ he)) hn.2 mw gv jO;have i_:aR e0.1 k=xn:=by
   cases q:aR e0.1 k with
   |false=>rfl
   |true=>exact absurd (by rw[(hk _ aK).mp q,<-gv];exact cY (bo mw)) hn.1
  unfold w6 at ih ⊢;simp only[aB,dJ,ma,i_];exact ih
def O7(h:D8 kvs k=xn):w6 kvs k=p4:=by
 unfold D8 at h;rw[fQ]at h;unfold w6;rw[kg.mpr λp hp=>by simpa using h p hp];rfl
def a6D(h:w6 kvs k=cz d):D8 kvs k=rp:=by
 cases q:D8 kvs k with
 |true=>rfl
 |false=>rw[O7 q]at h;cases h
def b0Z(h:D8 kvs k=xn):G9 kvs k d=kvs++[(k,d)]:=by unfold G9;rw[h];rfl
def a6E{es:List (D×V×V)}{ds:List D}{k d:D}{kv v:V}(hl:ds.length=es.length):((es++[(k,kv,v)]).map (·.1)).zip (ds++[d])=(es.map (·.1)).zip ds++[(k,d)]:=by
 rw[aT,List.zip_append (by rw[af];exact hl.symm)];rfl
theorem a1R{v:V}:∀{es:List (D×V×V)} {ds:List D} {j:Nat} {e:D×V×V},ds.length=es.length->(∀e∈es,aR e.1 k=rp↔e.1=k)->(es.map (·.1)).Nodup->es[j]?=cz e->e.1=k->
  ((es.map (·.1)).zip ds).map (λp=>if aR p.1 k then (p.1,d) else p)=(es.map (·.1)).zip (ds.set j d)
 |[],ds,j,e,_,_,_,he,_=>by simp at he
 |e0::es,[],j,e,h,_,_,_,_=>by simp at h
 |e0::es,d0::ds,0,e,h,hk,hn,he,gv=>by
  cases he
  rw[aB,cF]at hn;have h0:aR e0.1 k=rp:=(hk _ aK).mpr gv;have jS:((es.map (·.1)).zip ds).map (λp=>if aR p.1 k then (p.1,d) else p)=(es.map (·.1)).zip ds:=by
   have:∀p∈(es.map (·.1)).zip ds,(if aR p.1 k then (p.1,d) else p)=p:=λp hp=>by
    rw[aM];intro q;have hm:=(jA hp).1;obtain⟨e',mw,hq⟩:=aG.mp hm;have DB:e'.1=p.1:=hq;rw[<-DB]at q;exact hn.1 (by rw[gv,<-(hk e' (ar _ mw)).mp q];exact cY mw)
   rw[bW this,uV]
  simp only[aB,dJ,nN,aE h0,jS]
 |e0::es,d0::ds,j+1,e,h,hk,hn,he,gv=>by
  rw[aB,cF]at hn;have mw:es[j]?=cz e:=by simpa using he
  have ih:=a1R (k:=k) (d:=d) (v:=v) (ds:=ds) (by simpa using h) (λe he=>hk e (ar _ he)) hn.2 mw gv;have i_:¬ aR e0.1 k=rp:=λq=>hn.1 (by rw[(hk _ aK).mp q,<-gv];exact cY (bo mw))
  simp only[aB,dJ,ij,aM i_,ih]
section
variable {K:ag}{H:Hp}{F:List aC}
theorem Own.dict(h:Own K H F (.d kt u) v d fp):∃a es ds fs,v=.ref a/\H a=cz (f9 a es)/\d=.dict ((es.map (·.1)).zip ds)/\fp=a::fs/\(∀e∈es,keyOk kt e.1/\Den K (cut H F) e.2.1 e.1)/\ListAll (Own K H F u) (es.map (·.2.2)) ds fs/\ds.length=es.length/\(es.map (·.1)).Nodup:=by
 simp only[Own]at h;obtain⟨a,es,ds,fs,h1,h2,h3,h4,h5,h6⟩:=h;exact⟨a,es,ds,fs,h1,h2,h3,h4,h5.2,h6,by have:=h6.length;rw[af]at this;exact this.symm,h5.1⟩
end
section
variable {X:Cx}{M:List Md}{a b e:Expr}{fa fb:EvE}{ca cb:Cat}{kt:Bool}{u:Ty}{pos:fV}
def keysAt(h:∀e∈es,keyOk kt e.1/\Den X.K (cut H F) e.2.1 e.1)(hk:n6 kt k=rp)(hd:Den X.K H kv k):KeysAt X H kt es k kv:=
 ⟨λe he=>⟨(h e he).1,(h e he).2.up j6⟩,F5 hk,hd⟩
def b6n(X:Cx)(neg:Bool):R2:=λx y H Q=>∃a es kt k,y=.ref a/\H a=cz (f9 a es)/\KeysAt X H kt es k x/\Q (.bl (neg !=y8 es k)) H
def a4C(hu:X.A.units+464<dF):OpR X (cR .NotIn) (b6n X rp):=by
 intro pins s Y H x y v w Q I rx ry h;obtain⟨a,es,kt,k,rfl,hH,K,q⟩:=h;cases (show w=bt a from ry)
 exact b3j (by lia) I hH K rx λs' I'=>⟨.bl _,H,I',rfl,by simpa using q⟩
def b3l(h:dIn neg kt k d=cz r):∃kvs,d=.dict kvs/\n6 kt k=rp/\r=.bool (neg !=D8 kvs k):=by
 cases d with
 |dict kvs=>
  have h':(if n6 kt k then cz (cL (neg !=D8 kvs k)) else p4)=cz r:=h;by_cases c:n6 kt k=rp
  ·rw[aE c]at h';exact⟨kvs,rfl,c,(aF h').symm⟩
  ·rw[aM c]at h';cases h'
 |_=>cases h
def b6o(ho:OpR X (cR op) (b6n X neg))(ha:PX X M a fa ca)(hb:PX X M b fb (.bor (.d kt u)))(S:StE X.K M U Y H P F)(e1:Same H H1)(e2:Same H1 H2)
  (r1:ResR X.K ca H H1 F v k) (r2:ResR X.K (.bor (.d kt u)) H1 H2 F w d) (hr:dIn neg kt k d=cz r) (q:Q (.bl (match r with|.bool b=>b|_=>xn)) H2):b6n X neg v w H2 Q:=by
 obtain⟨kvs,rfl,hk,rfl⟩:=b3l hr;obtain⟨fp,o,_⟩:=r2;obtain⟨p,es,ds,fs,rfl,hH,hd,_,h5,_,hl,_⟩:=o.dict;cases hd
 refine⟨p,es,kt,k,rfl,hH,keysAt h5 hk (r1.den.up e2),?_⟩;rw[<-K8 hl];exact q
def b3m(ho:OpR X (cR op) (b6n X neg))(ha:PX X M a fa ca)(hb:PX X M b fb (.bor (.d kt u)))(hm:ix op b=xn:=by first|exact a7G _|with_unfolding_all rfl):PTX X M (.Compare a [op] [b] pos) (tB (e2 (dIn neg kt) fa fb)):=by
 obtain⟨ta,pa,qa⟩:=ha.out;obtain⟨tb,pb,qb⟩:=hb.out;refine .mk ⟨_,a9n ho pa pb hm,λU Y H P F k Q S hf q=>?_⟩;obtain⟨d,hf,hk⟩:=bnd hf;cases O5 hk
 obtain⟨x,y,h1,h2,h3⟩:=B8 hf;exact qa U Y H P F x _ S h1 λv H1 e1 r1=>qb U Y H1 P F y _ (S.grow e1) h2 λw H2 e2 r2=>b6o ho ha hb S e1 e2 r1 r2 h3 ⟨k,rfl,q H2 (e1.trans e2)⟩
def c3x(X:Cx)(td ty:TE):TE:=λY H Q=>td Y H λx H1=>ty Y H1 λy H2=>∃a es kt k,x=.ref a/\H2 a=cz (f9 a es)/\KeysAt X H2 kt es k y/\y8 es k=rp/\∀e∈es,e.1=k->Q e.2.2 H2
def b9K(hu:X.A.units+464<dF)(ho:PE X a td)(hi:PE X b ty)(hs:b3i b):PE X (.Subscript a b pos) (c3x X td ty):=by
 intro pins s Y H Q I h;refine c3w PySem.F.slot_dict_getitem.lookup hs (L2.thn (ho pins s Y H _ I h) λu s1 ⟨x,H1,I1,rx,q1⟩=>L2.thn (hi pins s1 Y H1 _ I1 q1) λiv s2 qz=>?_);obtain⟨y,H2,I2,ry,p,es,kt,k,ex,hH,K,hh,q2⟩:=qz;subst ex;obtain rfl:u=bt p:=rx;exact⟨o7 I2 hH,a8e (by lia) I2 hH K ry hh λe he gv x s3 I3 r3=>⟨e.2.2,H2,I3,r3,q2 e he gv⟩⟩
def b1a(h:a5A kt d k=cz r):∃kvs,d=.dict kvs/\n6 kt k=rp/\w6 kvs k=cz r:=by
 cases d with
 |dict kvs=>
  have h':(if n6 kt k then w6 kvs k else p4)=cz r:=h;by_cases c:n6 kt k=rp
  ·rw[aE c]at h';exact⟨kvs,rfl,c,h'⟩
  ·rw[aM c]at h';cases h'
 |_=>cases h
def a8g{es:List (D×V×V)}{ds:List D}{e:D×V×V}(h6:ListAll (Own X.K H F u) (es.map (·.2.2)) ds fs)(hl:ds.length=es.length)(hn:(es.map (·.1)).Nodup)(K:KeysAt X H kt es k kv)(he:e∈es)(gv:e.1=k) :
  ∃(j:Nat) (d:D) (f:List aC),es[j]?=cz e/\ds[j]?=cz d/\w6 ((es.map (·.1)).zip ds) k=cz d/\Own X.K H F u e.2.2 d f/\∀x∈f,x∈fs:=by
 obtain⟨j,hj⟩:=cW.mp he;have jN:j<ds.length:=by rw[hl];exact (aD.mp hj).1
 obtain⟨w,f,pre,post,z1,z2,z3,_⟩:=h6.at_ (ab jN);rw[aQ,hj]at z1;cases z1
 refine⟨j,ds[j],f,hj,ab jN,a3c hl (λe he=>K.eqv he) hn hj gv (ab jN),z2,λx hx=>?_⟩;rw[z3];exact aj _ (ak _ hx)
end
def b3n:Ty->Bool
 |.i=>rp
 |.f=>rp
 |.l _=>rp
 |_=>xn
def b3o:∀{u:Ty},b3n u=rp->Own K H F u .non .none []
 |.i,_=>by simp only[Own];exact⟨trivial,by simp only[imm],den_none⟩
 |.f,_=>by simp only[Own];exact⟨trivial,den_none⟩
 |.l _,_=>by simp only[Own];exact .inl ⟨trivial,by simp only[imm],den_none⟩
 |.tp _,h=>nomatch h
 |.d _ _,h=>nomatch h
section
variable {X:Cx}{M:List Md}{a b e o:Expr}{es:List Expr}{fa fb:EvE}{ca cb:Cat}{kt:Bool}{u:Ty}{pos apos cV:fV}{to:TE}{t:TA}{name:bM}{id:String}{r:V->List V->Hp->VK->Prop}
def b9L(hu:X.A.units+464<dF)(ha:PX X M a fa (.bor (.d kt u)))(hb:PX X M b fb cb)(hs:b3i b:=by exact λ_ _=>rfl):PX X M (.Subscript a b pos) (e2 (a5A kt) fa fb) (.bor u):=by
 obtain⟨ta,pa,qa⟩:=ha.out;obtain⟨tb,pb,qb⟩:=hb.out;refine .mk ⟨_,b9K hu pa pb hs,λU Y H P F d Q S hf q=>?_⟩;obtain⟨x,y,h1,h2,h3⟩:=B8 hf;obtain⟨kvs,rfl,hk,hg⟩:=b1a h3;refine qa U Y H P F _ _ S h1 λv H1 e1 ⟨fp,o,sub⟩=>qb U Y H1 P F y _ (S.grow e1) h2 λw H2 e2 r2=>?_
 obtain⟨p,es,ds,fs,rfl,hH,hd,rfl,h5,h6,hl,hn⟩:=(o.grow e2).dict;cases hd
 have K:=keysAt (X:=X) h5 hk r2.den;refine⟨p,es,kt,y,rfl,hH,K,by rw[<-K8 hl];exact a6D hg,λe he gv=>?_⟩;obtain⟨j,d',f,_,_,g',o',s'⟩:=a8g h6 hl hn K he gv;rw[hg]at g';cases g'
 exact q _ H2 (e1.trans e2) ⟨f,o',λx hx=>sub x (ar _ (s' x hx))⟩
def c3y(r:V->List V->Hp->VK->Prop)(to:TE)(t:TA):TE:=λY H Q=>to Y H λx H1=>(∃p es,x=.ref p/\H1 p=cz (f9 p es))/\t Y H1 λxs H2=>r x xs H2 Q
def a8h(slot:Slot "dict" name id)(zo:typeOf (.builtin id)=pure (.type "method_descriptor"))(hm:MtR X id r)(ho:PE X o to)(ha:PA X (e::es) t)
  (fN:dZ o name X.env (cI o X.env)=cI o X.env:=by rfl)
  (iT:((cD cV (au (e::es) X.env)).all (λx=>!x.1)&&(eV cV (dC [] X.env)).all (λx=>x.1.isSome)
   && decide ((e::es).length+([]:List eL).length+(if ([]:List eL).isEmpty then 0 else 1)<30))=rp:=by rfl)
  (fM:(apos.endLine==cV.line)=rp:=by rfl) (hs:au (e::es) X.env=(xn,cI e X.env)::au es X.env:=by rfl) (eB:(cD cV (au es X.env)).any (·.1)=xn:=by rfl) :
  PE X (.Call (.Attribute o name apos) (e::es) [] cV) (c3y r to t):=by
 intro pins s Y H Q I h;refine Co fN iT fM rfl (L2.thn (ho pins s Y H _ I h) λv s1 qz=>?_);obtain⟨x,H1,I1,r1,⟨p,GU,ex,hH⟩,q1⟩:=qz;subst ex;obtain rfl:v=bt p:=r1;refine⟨"dict",id,tP,slot,zo,o7 I1 hH,a0M I1 hH,?_⟩;have hA:=ha cV pins s1 Y H1 _ I1 q1;rw[hs]at hA ⊢;refine nc (by show (xn||(cD cV (au es X.env)).any (·.1))=xn;rw[eB]<;>rfl) (oK ?_);exact L2.thn hA λus s2 ⟨vs,H2,I2,r2,q2⟩=>hm pins s2 Y H2 (.ref p) vs (.ref p) us Q I2 rfl r2 q2
def c1S(X:Cx):V->List V->Hp->VK->Prop:=λx xs H Q=>∃p es kt k y,x=.ref p/\xs=[y]/\H p=cz (f9 p es)/\KeysAt X H kt es k y/\(y8 es k=xn->Q .non H)/\∀e∈es,e.1=k->Q e.2.2 H
def b9M(hu:X.A.units+464<dF):MtR X "dict.get" (c1S X):=by
 intro pins s Y H x xs v us Q I rx rv h;obtain⟨p,es,kt,k,y,rfl,rfl,hH,K,q1,q2⟩:=h;cases (show v=bt p from rx)
 obtain⟨w,rfl,rw⟩:=rv.one;exact b3k (by lia) I hH K rw (λhf s' I'=>⟨.non,H,I',rfl,q1 hf⟩) λe he gv x s' I' r'=>⟨e.2.2,H,I',r',q2 e he gv⟩
def a8i{d k r:D}(h:a3a kt d k=cz r):∃kvs,d=.dict kvs/\n6 kt k=rp/\r=(w6 kvs k).getD .none:=by
 cases d with
 |dict kvs=>
  have h':(if n6 kt k then cz ((w6 kvs k).getD .none) else p4)=cz r:=h;by_cases c:n6 kt k=rp
  ·rw[aE c]at h';exact⟨kvs,rfl,c,(aF h').symm⟩
  ·rw[aM c]at h';cases h'
 |_=>cases h
def b9N(hu:X.A.units+464<dF)(ha:PX X M a fa (.bor (.d kt u)))(hb:PX X M b fb cb)(qy:b3n u=rp:=by rfl)(fN:dZ a "get" X.env (cI a X.env)=cI a X.env:=by rfl)
  (iT:((cD cV (au [b] X.env)).all (λx=>!x.1)&&(eV cV (dC [] X.env)).all (λx=>x.1.isSome)
   && decide (([b]:List Expr).length+([]:List eL).length+(if ([]:List eL).isEmpty then 0 else 1)<30))=rp:=by rfl)
  (fM:(apos.endLine==cV.line)=rp:=by rfl) (hs:au [b] X.env=(xn,cI b X.env)::au [] X.env:=by rfl) (eB:(cD cV (au [] X.env)).any (·.1)=xn:=by rfl) :
  PX X M (.Call (.Attribute a "get" apos) [b] [] cV) (e2 (a3a kt) fa fb) (.bor u):=by
 obtain⟨ta,pa,qa⟩:=ha.out;obtain⟨tb,pb,qb⟩:=hb.out;refine .mk ⟨_,a8h vN vM (b9M hu) pa (k6 pb n8 hs) fN iT fM hs eB,λU Y H P F d Q S hf q=>?_⟩;obtain⟨x,y,h1,h2,h3⟩:=B8 hf;obtain⟨kvs,rfl,hk,rfl⟩:=a8i h3;refine qa U Y H P F _ _ S h1 λv H1 e1 qz=>?_
 obtain⟨fp,o,sub⟩:=qz;obtain⟨p,es,ds,fs,rfl,hH,_,GV,_⟩:=o.dict;refine⟨⟨p,es,rfl,hH⟩,qb U Y H1 P F y _ (S.grow e1) h2 λw H2 e2 r2=>?_⟩;obtain⟨p',es',kj,mz,ep,xD,jO,Ax,h5,h6,hl,hn⟩:=(o.grow e2).dict;cases ep
 injection jO with og
 have K:=keysAt (X:=X) h5 hk r2.den;refine⟨p,es',kt,y,w,rfl,rfl,xD,K,λhf=>?_,λe he gv=>?_⟩
 ·have:w6 kvs y=p4:=O7 (by rw[og,K8 hl];exact hf);rw[this]at q;exact q .non H2 (e1.trans e2) ⟨[],b3o qy,λa ha=>(nomatch ha)⟩
 ·obtain⟨j,d',f,_,_,g',o',s'⟩:=a8g h6 hl hn K he gv;rw[og,g']at q;exact q _ H2 (e1.trans e2) ⟨f,o',λx hx=>sub x (by rw[Ax];exact ar _ (s' x hx))⟩
def b1b:CallR X (.builtin "len") (λxs H Q=>∃p es,xs=[V.ref p]/\H p=cz (f9 p es)/\Q (.int es.length) H):=by
 intro pins s Y H xs us Q I rv h;obtain⟨p,es,rfl,hH,q⟩:=h;obtain⟨w,rfl,rw⟩:=rv.one;cases (show w=bt p from rw)
 exact b9J I hH λt s' I'=>⟨.int es.length,H,I',⟨t,rfl⟩,q⟩
def a5B(hm:X.mg "len"=p4)(ha:PX X M a fa (.bor (.d kt u)))(hg:Gl X "len":=by rfl)(he:au [a] X.env=(xn,cI a X.env)::au [] X.env:=by rfl)(gK:(cD pos (au [] X.env)).any (·.1)=xn:=by rfl) :
  PX X M (.Call (.Name "len" p) [a] [] pos) (eCl a3b (a6 fa b8)) (.new .i):=by
 obtain⟨ta,pa,qa⟩:=ha.out;refine .mk ⟨_,a0A b1b hg hm rM (k6 pa n8 he) (by decide) (by decide) he gK,λU Y H P F d Q S hf q=>?_⟩;obtain⟨xs,h1,h2⟩:=bnd hf;obtain⟨x,h3,h4⟩:=bnd h1;obtain⟨lA,h5,h6⟩:=bnd h4;cases h5
 cases h6
 have hx:∃kvs,x=.dict kvs/\d=.int kvs.length:=by
  cases x with
  |dict kvs=>cases h2;exact⟨kvs,rfl,rfl⟩
  |_=>cases h2
 obtain⟨kvs,rfl,rfl⟩:=hx;refine qa U Y H P F _ _ S h3 λv H1 e1 qz=>?_
 obtain⟨fp,o,sub⟩:=qz;obtain⟨p,es,ds,fs,rfl,hH,hd,_,_,_,hl,_⟩:=o.dict
 injection hd with hd
 have hlen:kvs.length=es.length:=by rw[hd,qI,af,hl,uR]
 refine⟨p,es,rfl,hH,?_⟩;rw[<-hlen];exact q _ H1 e1 (K5 (by simp only[imm]) den_int (S.lst' e1))
def a6F(h:cM)(hb:fA<h.objs.size):ObjOk P w H (h.push {cls:=.type "dict",data:=.dict #[]}) h.objs.size (f9 h.objs.size []):=
 a1q (jF.mpr (fm (bO hb))) (bL _) bE (bz _ rfl) ⟨rfl,rfl,rfl⟩ rfl .nil
def b3p:PE X (.Dict [] [] pos) (λ_ H Q=>∀p,H p=p4->Q (.ref p) (upd H p (f9 p []))):=λpins s Y H Q I h=>
 wpAny_Dict_empty ⟨.ref s.heap.objs.size,_,I.laid (a:=s.heap.objs.size) (o:=f9 s.heap.objs.size []) (t':=s.toks) (λ_ _ q=>aO _ q) (az _) (a6F s.heap I.sysBelow),rfl,h _ (I.hok.fresh (az _))⟩
def O8(kt:Bool)(u:Ty):PX X M (.Dict [] [] pos) (eC (.dict [])) (.new (.d kt u)):=by
 refine .mk ⟨_,b3p,λU Y H P F d Q S hf q=>?_⟩;cases hf
 intro p hp;refine q _ _ (j8 hp _) ⟨[p],?_,by simp,λa ha=>by rw[aq.mp ha];exact hp⟩;simp only[Own];exact⟨p,[],[],[],rfl,g8,rfl,rfl,⟨bE,λe he=>(nomatch he)⟩,p7⟩
end
section
variable {K:ag}{H:Hp}{F:List aC}
theorem StE.dict(S:StE K M U Y H P F)(hm:M[i]?=cz (.own (.d kt u))) :
  ∃a es ds fs,Y[i]?=cz (cz (.ref a))/\H a=cz (f9 a es)/\U.getD i .none=.dict ((es.map (·.1)).zip ds)/\(∀e∈es,keyOk kt e.1/\Den K (cut H F) e.2.1 e.1)/\ListAll (Own K H F u) (es.map (·.2.2)) ds fs/\ds.length=es.length/\(es.map (·.1)).Nodup:=by
 obtain⟨v,f,h1,o,_⟩:=S.get hm;obtain⟨a,es,ds,fs,rfl,h2,h3,_,h5,h6,h7,h8⟩:=o.dict;exact⟨a,es,ds,fs,h1,h2,h3,h5,h6,h7,h8⟩
theorem a6G:∀{es:List (D×V×V)} {j:Nat} {e:D×V×V},(es.map (·.1)).Nodup->(∀e∈es,aR e.1 k=rp↔e.1=k)->es[j]?=cz e->e.1=k->(es.map λe=>if aR e.1 k then (e.1,e.2.1,v) else e).map (·.2.2)=(es.map (·.2.2)).set j v
 |[],j,e,_,_,hj,_=>by simp at hj
 |e0::es,0,e,hn,mS,hj,gv=>by
  rw[aB,cF]at hn;cases hj
  have jS:es.map (λe=>if aR e.1 k then (e.1,e.2.1,v) else e)=es:=by
   have:∀e'∈es,(if aR e'.1 k then (e'.1,e'.2.1,v) else e')=e':=λe' mw=>by
    rw[aM];intro q;exact hn.1 (by rw[gv,<-(mS e' (ar _ mw)).mp q];exact cY mw)
   rw[bW this,uV]
  rw[aB,aE ((mS _ aK).mpr gv),jS];rfl
 |e0::es,j+1,e,hn,mS,hj,gv=>by
  rw[aB,cF]at hn;have sC:es[j]?=cz e:=by simpa using hj
  have i_:¬ aR e0.1 k=rp:=λq=>hn.1 (by rw[(mS _ aK).mp q,<-gv];exact cY (bo sC))
  rw[aB,aM i_,aB,aB,ij,a6G hn.2 (λe he=>mS e (ar _ he)) sC gv]
def Pend.dput(h:Pend K ([]++[.own u]) ([]++[d]) ([]++[cz v]) M U Y H P F)(hm:M[i]?=cz (.own (.d kt u)))(hk:keyOk kt k)(Ei:Den K H kv k) :
  ∃a es ds fs,Y[i]?=cz (cz (.ref a))/\H a=cz (f9 a es)/\U.getD i .none=.dict ((es.map (·.1)).zip ds)/\(∀e∈es,keyOk kt e.1/\Den K (cut H F) e.2.1 e.1)/\ListAll (Own K H F u) (es.map (·.2.2)) ds fs/\ds.length=es.length/\(es.map (·.1)).Nodup/\
   StR K M (U.set i (.dict (G9 ((es.map (·.1)).zip ds) k d))) Y (upd H a (f9 a (a0L es k kv v))) P F:=by
 obtain⟨_,_,S⟩:=h;obtain⟨G,h1,h2,h3⟩:=S.all;have nV:StAll K H F (.own u::M) (d::U) (cz v::Y) G:=by simpa using h1
 simp only[StAll]at nV;obtain⟨d',U',o',Y',fv,G2,e1,e2,rfl,⟨v',e3,ov⟩,h5⟩:=nV;cases e1
 cases e2
 cases e3
 obtain⟨dd,oo,f,pre,post,q1,q2,⟨v2,rfl,q3⟩,rfl,q5⟩:=h5.at_ hm;obtain⟨a,es,ds,fs,rfl,r2,r3,rfl,r5,r6,hl,hn⟩:=q3.dict;have xw:a∈F:=h3 a (by simp);have kI:∀o,Same (cut H F) (cut (upd H a o) F):=λo b o' hb=>by
  obtain⟨n1,n2⟩:=m9 hb;exact i7 n1 (by rw[c6 (show b≠a from λz=>n1 (z▸xw))];exact n2)
 have cnt:∀b,b=a->(pre++post).count b=0/\fs.count b=0/\fv.count b=0:=λb e=>by
  subst e;have:=jo.mp h2 b;simp only[cU,bP,xR]at this ⊢;exact⟨by lia,by lia,by lia⟩
 have kk:∀(l:List aC) (o:HO),(∀b,b=a->l.count b=0)->∀b∈l,upd H a o b=H b:=λl o hc b hb=>c6 λz=>by
  have:=hc b z;rw[AJ]at this;exact this hb
 have Ej:Den K (cut H F) kv k:=Ei.imm_out S.lst k (V4 _ hk.1);have mS:∀e∈es,aR e.1 k=rp↔e.1=k:=λe he=>V3 e.1 k (r5 e he).1.1 hk.1
 have fin:∀(es':List (D×V×V)) (kj:List D) (mz:List aC),(es'.map (·.1)).Nodup->(∀e∈es',keyOk kt e.1/\Den K (cut H F) e.2.1 e.1)->ListAll (Own K (upd H a (f9 a es')) F u) (es'.map (·.2.2)) kj mz->(∀b,mz.count b<=fs.count b+fv.count b)->
   StR K M (U.set i (.dict ((es'.map (·.1)).zip kj))) Y (upd H a (f9 a es')) P F:=λes' kj mz wM sA ha pq=>by
  have o1:Own K (upd H a (f9 a es')) F (.d kt u) (.ref a) (.dict ((es'.map (·.1)).zip kj)) (a::mz):=by
   simp only[Own];exact⟨a,es',kj,mz,rfl,g8,rfl,rfl,⟨wM,λe he=>⟨(sA e he).1,(sA e he).2.up (kI _)⟩⟩,ha⟩
  have q:=q5 (upd H a (f9 a es')) F (.own (.d kt u)) (.dict ((es'.map (·.1)).zip kj)) (cz (.ref a)) _ (kk _ _ λb e=>(cnt b e).1) (kI _) ⟨_,rfl,o1⟩;rw[set_same (l:=Y) q2,set_same (l:=M) hm]at q;refine⟨⟨_,q,a0K h2 λb=>?_,λb hb=>?_⟩,λb hb=>?_,S.prot.trans (kI _)⟩
  ·have:=pq b;simp only[cU,bP,jC];lia
  ·have hc:0<(fv++(pre++(a::fs++post))).count b:=by
    have h0:=kh.mpr hb;have:=pq b;simp only[cU,bP,jC]at h0 ⊢;lia
   exact h3 b (kh.mp hc)
  ·by_cases e:b=a
   ·subst e;exact⟨⟨f9 b es',trivial⟩,g8⟩
   ·obtain⟨ys,y⟩:=S.lst b hb;exact⟨ys,by rw[c6 e];exact y⟩
 refine⟨a,es,ds,fs,q2,r2,by rw[C8 q1];exact r3,r5,r6,hl,hn,?_⟩;cases hf:y8 es k with
 |false=>
  rw[a2Z hf,b0Z (by rw[K8 hl];exact hf),<-a6E (kv:=kv) (v:=v) hl];refine fin (es++[(k,kv,v)]) (ds++[d]) (fs++fv) ?_ ?_ ?_ λb=>by rw[cU];exact az _
  ·rw[aT,bV];refine⟨hn,by simp,λx hx y hy e=>?_⟩;simp only[aB,cX,aq]at hy;subst hy;subst e;obtain⟨e,he,rfl⟩:=aG.mp hx;unfold y8 at hf;rw[fQ]at hf;exact hf e he ((mS e he).mpr rfl)
  ·intro e he;rcases ay.mp he with z|z
   ·exact r5 e z
   ·rw[aq.mp z];exact⟨hk,Ej⟩
  ·rw[aT];refine (o9 (kI _) r6 (kk _ _ λb e=>(cnt b e).2.1)).append ?_;have:=n5 (R:=Own K (upd H a (f9 a (es++[(k,kv,v)]))) F u) (ov.frame (kI _) u (kk _ _ λb e=>(cnt b e).2.2)) p7
   rwa[aX]at this
 |true=>
  have hh:=hf;unfold y8 at hf;rw[pG]at hf;obtain⟨e,he,gv⟩:=hf;have xf:=(mS e he).mp gv;obtain⟨j,hj⟩:=cW.mp he;have qB:j<ds.length:=by rw[hl];exact (aD.mp hj).1
  have uu:a0L es k kv v=es.map λe=>if aR e.1 k then (e.1,e.2.1,v) else e:=by unfold a0L;rw[hh];rfl
  have wF:G9 ((es.map (·.1)).zip ds) k d=(es.map (·.1)).zip (ds.set j d):=by
   unfold G9;rw[K8 hl,hh];exact a1R (v:=v) hl mS hn hj xf
  have tx:(a0L es k kv v).map (·.1)=es.map (·.1):=by rw[uu];exact a6B
  rw[wF,<-tx];obtain⟨w3,f3,a1,a2,s1,s2,BZ,s4⟩:=r6.zip (ab qB);have wx:(a0L es k kv v).map (·.2.2)=(es.map (·.2.2)).set j v:=by
   rw[uu];exact a6G hn mS hj xf
  refine fin (a0L es k kv v) (ds.set j d) (a1++(fv++a2)) (by rw[tx];exact hn) ?_ ?_ λb=>by rw[BZ];simp only[cU];lia
  ·intro e' mw;rw[uu]at mw;obtain⟨e0,ym,rfl⟩:=aG.mp mw
   split
   ·exact r5 e0 ym
   ·exact r5 e0 ym
  ·rw[wx];have c5:∀b,b=a->(a1++a2).count b=0:=λb e=>by have:=(cnt b e).2.1;rw[BZ]at this;simp only[cU]at this ⊢;lia
   exact s4 _ F v d fv (kk _ _ c5) (kI _) (ov.frame (kI _) u (kk _ _ λb e=>(cnt b e).2.2))
end
def A9(i:Nat)(kt:Bool)(fk fv:EvE):EvS:=λU=>(fv U).bind λd=>(fk U).bind λk=>match U.getD i .none with
 |.dict kvs=>if n6 kt k&&decide (kvs.length<1000000) then cz (.nx (U.set i (.dict (G9 kvs k d)))) else p4
 |_=>p4
abbrev EvX:=List D->Option (D×List D)
def C4(kvs:List (D×D))(k d:D):List (D×D):=if D8 kvs k then kvs else kvs++[(k,d)]
def scal:D->Bool
 |.int _=>rp
 |.bool _=>rp
 |.none=>rp
 |_=>xn
def U2(i:Nat)(kt:Bool)(fk fe:EvE):EvX:=λU=>(fk U).bind λk=>(fe U).bind λd=>match U.getD i .none with
 |.dict kvs=>if n6 kt k&&decide (kvs.length<1000000)&&scal d then cz ((w6 kvs k).getD d,U.set i (.dict (C4 kvs k d))) else p4
 |_=>p4
def a6H(j:Nat)(f:EvX):EvS:=λU=>(f U).bind λp=>match p.2.getD j .none with
 |.list ds=>if ds.length<1000000 then cz (.nx (p.2.set j (.list (ds++[p.1])))) else p4
 |_=>p4
def b3q(f:EvX):EvS:=λU=>(f U).bind λp=>cz (.nx p.2)
def b3r(h:scal d=rp)(hd:Den K H v d):∀H',Den K H' v d:=by
 intro H';cases d with
 |int i=>cases hd.int_inv;exact den_int
 |bool i=>cases hd.bool_inv;exact den_bool
 |none=>cases hd.none_inv;exact den_none
 |_=>cases h
def b3s(h:scal d=rp):imm d=rp:=by
 cases d with
 |int i=>simp only[imm]
 |bool i=>simp only[imm]
 |none=>simp only[imm]
 |_=>cases h
def PXE(X:Cx)(M:List Md)(e:Expr)(f:EvX)(u:Ty)(M1:List Md):Prop:=
 ∃t,PE X e t/\∀(U:List D) (Y:L2.St) (H P:Hp) (F:List aC) (d:D) (U':List D) (Q:VK),StR X.K M U Y H P F->f U=cz (d,U')->
  (∀v H' F',Pend X.K ([]++[.own u]) ([]++[d]) ([]++[cz v]) M1 U' Y H' P F'->Q v H')->t Y H Q
section
variable {X:Cx}{M M1 ML:List Md}{e k v:Expr}{fk fe fv:EvE}{f:EvX}{ck:Cat}{kt:Bool}{u w:Ty}{pos apos cV jv:fV}
def c1T(X:Cx)(td ty tv:TE):TS:=λD Y H=>tv Y H λv H1=>td Y H1 λx H2=>ty Y H2 λy H3=>∃a es kt k,x=.ref a/\H3 a=cz (f9 a es)/\KeysAt X H3 kt es k y/\es.length<br/\D.nx Y (upd H3 a (f9 a (a0L es k y v)))
def b6p(hu:X.A.units+464<dF)(ho:PE X o td)(hi:PE X k ty)(hv:PE X v tv)(hs:fx v (cz (.Subscript o k jv)) pos.line X.env=pure xn) :
  PS X (.Assign [.Subscript o k jv] v pos) (c1T X td ty tv):=by
 intro pins s Y H D I h;refine wpAny_Assign_Subscript (L2.thn (hv pins s Y H _ I h) λr s1 ⟨v,H1,I1,rv,q1⟩=>L2.thn (ho pins s1 Y H1 _ I1 q1) λu s2 ⟨x,H2,I2,rx,q2⟩=>L2.thn (hi pins s2 Y H2 _ I2 q2) λiv s3 qz=>?_) hs;obtain⟨y,H3,I3,ry,a,es,kt,k,ex,hH,K,hl,q3⟩:=qz;subst ex;obtain rfl:u=bt a:=rx;exact a8f (by lia) I3 hH K ry rv hl λs4 I4=>⟨Y,_,I4,q3⟩
def a0N(i:Nat)(hu:X.A.units+464<dF)(hk:PX X M1 k fk ck)(hv:PMX X M v fv u M1)(hN:X.N[i]?=cz x:=by rfl)(oM:autoParam (NmV X x) ZY._auto_1)(hm:M1[i]?=cz (.own (.d kt u)):=by rfl)(hs:fx v (cz (.Subscript (.Name x px) k jv)) pos.line X.env=pure xn:=by rfl) :
  PSX X w ML M (.Assign [.Subscript (.Name x px) k jv] v pos) (A9 i kt fk fv) M1:=by
 obtain⟨tv,pv,qv⟩:=hv;obtain⟨tk,pk,qk⟩:=hk.out;refine .mk ⟨_,b6p hu (C6 hN oM.1 oM.2.1 oM.2.2) pk pv hs,λD U Y H P F o S hg kk=>?_⟩;obtain⟨d,h1,g1⟩:=bnd hg;obtain⟨y,h2,g2⟩:=bnd g1;refine qv [] [] [] U Y H P F d _ S.pend h1 λv1 H1 F1 e1 S1=>?_
 obtain⟨a,es,ds,fs,ha,hH,hU,_⟩:=S1.e.dict hm;rw[hU]at g2;have nW:(if (n6 kt y&&decide (((es.map (·.1)).zip ds).length<1000000))=rp then cz (Out.nx (U.set i (.dict (G9 ((es.map (·.1)).zip ds) y d)))) else p4)=cz o:=g2;by_cases c0:(n6 kt y&&decide (((es.map (·.1)).zip ds).length<1000000))=rp
 ·rw[aE c0]at nW;cases nW
  have c:=Bool.and_eq_true_iff.mp c0;refine⟨_,ha,qk U Y H1 P F1 y _ S1.e h2 λkv H2 e2 r2=>?_⟩;obtain⟨a',es',kj,mz,tH,xD,nY,hK,_,tw,_,S3⟩:=(S1.grow e2).dput hm (F5 c.1) r2.den;rw[ha]at tH;cases tH
  rw[hU]at nY
  injection nY with nY
  refine⟨a,es',kt,y,rfl,xD,keysAt hK c.1 r2.den,?_,kk Y _ F1 (by rw[nY];exact S3)⟩;have hlen:((es'.map (·.1)).zip kj).length=es'.length:=by rw[qI,af,tw,uR]
  rw[<-hlen,<-nY];exact gT (bG c.2) (by rw[dB];decide)
 ·rw[aM c0]at nW;cases nW
def b9O(X:Cx):V->List V->Hp->VK->Prop:=λx xs H Q=>∃p es kt k y z,x=.ref p/\xs=[y,z]/\H p=cz (f9 p es)/\KeysAt X H kt es k y/\es.length<br/\(y8 es k=xn->Q z (upd H p (f9 p (es++[(k,y,z)]))))/\∀e∈es,e.1=k->Q e.2.2 H
def b6q(hu:X.A.units+464<dF):MtR X "dict.setdefault" (b9O X):=by
 intro pins s Y H x xs v us Q I rx rv h;obtain⟨p,es,kt,k,y,z,rfl,rfl,hH,K,hl,q1,q2⟩:=h;cases (show v=bt p from rx)
 obtain⟨w1,w2,rfl,r1,r2⟩:=vals2 rv;exact b6m (by lia) I hH K r1 r2 hl (λhf s' I'=>⟨z,_,I',r2,q1 hf⟩) λe he gv x s' I' r'=>⟨e.2.2,H,I',r',q2 e he gv⟩
def a6I(i:Nat)(hu:X.A.units+464<dF)(hk:PX X M k fk (.new .i))(he:PX X M e fe (.new .i))(hN:X.N[i]?=cz x:=by rfl)(oM:autoParam (NmV X x) ZY._auto_1)(hm:M[i]?=cz (.own (.d kt .i)):=by rfl)(fN:dZ (.Name x px) "setdefault" X.env (cI (.Name x px) X.env)=cI (.Name x px) X.env:=by rfl)
  (iT:((cD cV (au [k,e] X.env)).all (λx=>!x.1)&&(eV cV (dC [] X.env)).all (λx=>x.1.isSome)
   && decide (([k,e]:List Expr).length+([]:List eL).length+(if ([]:List eL).isEmpty then 0 else 1)<30))=rp:=by rfl)
  (fM:(apos.endLine==cV.line)=rp:=by rfl) (hs:au [k,e] X.env=(xn,cI k X.env)::au [e] X.env:=by rfl) (nZ:au [e] X.env=(xn,cI e X.env)::au [] X.env:=by rfl) (eB:(cD cV (au [e] X.env)).any (·.1)=xn:=by rfl) :
  PXE X M (.Call (.Attribute (.Name x px) "setdefault" apos) [k,e] [] cV) (U2 i kt fk fe) .i M:=by
 obtain⟨tk,pk,qk⟩:=hk.out;obtain⟨te,pe,qe⟩:=he.out;refine⟨_,a8h PySem.F.slot_dict_setdefault PySem.F.type_dict_setdefault (b6q hu) (C6 hN oM.1 oM.2.1 oM.2.2) (k6 pk (k6 pe n8 nZ) hs) fN iT fM hs eB,λU Y H P F d U' Q S hf q=>?_⟩;obtain⟨y,h1,g1⟩:=bnd hf;obtain⟨z,h2,g2⟩:=bnd g1;obtain⟨a,es,ds,fs,ha,hH,hU,_⟩:=S.toE.dict hm;rw[hU]at g2;have nW:(if (n6 kt y&&decide (((es.map (·.1)).zip ds).length<1000000)&&scal z)=rp then cz ((w6 ((es.map (·.1)).zip ds) y).getD z,U.set i (.dict (C4 ((es.map (·.1)).zip ds) y z))) else p4)=cz (d,U'):=g2;by_cases c:(n6 kt y&&decide (((es.map (·.1)).zip ds).length<1000000)&&scal z)=rp
 ·rw[aE c]at nW
  injection nW with nW
  injection nW with ed eU
  rw[aL,aL]at c;refine⟨.ref a,ha,⟨a,es,rfl,hH⟩,?_⟩;refine qk U Y H P F y _ S.toE h1 λkv H1 e1 r1=>qe U Y H1 P F z _ (S.grow e1).toE h2 λzv H2 e2 r2=>?_
  have S2:=S.grow (e1.trans e2);have xG:=r1.den.up e2;have own:∀(H':Hp) (F':List aC),Own X.K H' ([]++F') .i zv z []:=λH' F'=>by
   simp only[Own];exact⟨trivial,b3s c.2,b3r c.2 r2.den _⟩
  have S3:=S2.pend.new (Same.refl H2) (own H2 F) bE λa ha=>(nomatch ha)
  obtain⟨a',es',kj,mz,tH,xD,nY,h5,h6,hl,hn,S4⟩:=S3.dput hm (F5 c.1.1) xG;rw[ha]at tH;cases tH
  rw[hU]at nY
  injection nY with og
  have K:KeysAt X H2 kt es' y kv:=keysAt h5 c.1.1 xG;have hlen:es'.length<br:=by
   have e3:((es'.map (·.1)).zip kj).length=es'.length:=by rw[qI,af,hl,uR]
   rw[<-e3,<-og];exact gT (bG c.1.2) (by rw[dB];decide)
  refine⟨a,es',kt,y,kv,zv,rfl,rfl,xD,K,hlen,λhf=>?_,λe he gv=>?_⟩
  ·have qy:D8 ((es.map (·.1)).zip ds) y=xn:=by rw[og,K8 hl];exact hf
   have eE:a0L es' y kv zv=es'++[(y,kv,zv)]:=a2Z hf;rw[<-eE];have Ab:d=z:=by rw[<-ed,O7 qy];rfl
   have uh:U'=U.set i (.dict (G9 ((es'.map (·.1)).zip kj) y z)):=by
    rw[<-eU,<-og];unfold C4 G9;rw[qy];rfl
   rw[Ab,uh]at q;exact q zv _ _ (S4.pend.new (Same.refl _) (own _ _) bE λa ha=>(nomatch ha))
  ·obtain⟨j,d',f,_,_,g',o',_⟩:=a8g h6 hl hn K he gv;obtain⟨rfl,o2⟩:=a2N o';have Ab:d=d':=by rw[<-ed,og,g'];rfl
   have uh:U'=U:=by
    rw[<-eU];unfold C4;rw[a6D (by rw[og];exact g'),aE rfl,<-hU];have hi:∃x,U[i]?=cz x:=by
     obtain⟨G,q1,_⟩:=S.all;obtain⟨d0,_,_,_,_,z1,_⟩:=q1.at_ hm;exact⟨d0,z1⟩
    obtain⟨x,hx⟩:=hi;rw[C8 hx];exact set_same hx
   rw[Ab,uh]at q;exact q _ H2 _ (S2.pend.new (Same.refl _) (by simp only[Own,bT];exact⟨trivial,o2⟩) bE λa ha=>(nomatch ha))
 ·rw[aM c]at nW;cases nW
end
section
variable {X:Cx}{M M1 ML:List Md}{e:Expr}{f:EvX}{u w t:Ty}{pos apos cV:fV}
def b6r(j:Nat)(he:PXE X M e f t M1)(hN:X.N[j]?=cz x:=by rfl)(oM:autoParam (NmV X x) ZY._auto_1)(DZ:M[j]?=cz (.own (.l t)):=by rfl)(hm:M1[j]?=cz (.own (.l t)):=by rfl)(hni:∀U p,f U=cz p->p.2.getD j .none=U.getD j .none)
  (fN:dZ (.Name x px) "append" X.env (cI (.Name x px) X.env)=cI (.Name x px) X.env:=by rfl)
  (iT:((cD cV (au [e] X.env)).all (λx=>!x.1)&&(eV cV (dC [] X.env)).all (λx=>x.1.isSome)
   && decide ([e].length+([]:List eL).length+(if ([]:List eL).isEmpty then 0 else 1)<30))=rp:=by rfl)
  (fM:(apos.endLine==cV.line)=rp:=by rfl) (hs:au [e] X.env=(xn,cI e X.env)::au [] X.env:=by rfl) (eB:(cD cV (au [] X.env)).any (·.1)=xn:=by rfl)
  (qo:fx (.Call (.Attribute (.Name x px) "append" apos) [e] [] cV) p4 pos.line X.env=pure xn:=by rfl) :
  PSX X w ML M (.Expr (.Call (.Attribute (.Name x px) "append" apos) [e] [] cV) pos) (a6H j f) M1:=by
 obtain⟨te,pe,qe⟩:=he;refine .mk ⟨_,Q1 (a4n eP kO kN X3 (C6 hN oM.1 oM.2.1 oM.2.2) (k6 pe n8 hs) fN iT fM hs eB) qo,λD U Y H P F o S hg k=>?_⟩;obtain⟨⟨d,U'⟩,h1,g1⟩:=bnd hg;have wC:=hni U _ h1;have hl:∃ds,U'.getD j .none=.list ds/\ds.length<1000000/\o=.nx (U'.set j (.list (ds++[d]))):=by
  dsimp only at g1
  cases hx:U'.getD j .none with
  |list ds=>
   rw[hx]at g1;have vK:(if ds.length<1000000 then cz (Out.nx (U'.set j (.list (ds++[d])))) else p4)=cz o:=g1;by_cases c:ds.length<1000000
   ·rw[aE c]at vK;exact⟨ds,rfl,c,(aF vK).symm⟩
   ·rw[aM c]at vK;cases vK
  |_=>rw[hx]at g1;cases g1
 obtain⟨ds,hU,hz,rfl⟩:=hl;obtain⟨v,fv,hv,ov,_⟩:=S.toE.get DZ;have rg:∃a xs,v=.ref a/\H a=cz (.lst xs):=by
  rw[<-wC]at ov;rw[hU]at ov;simp only[Own]at ov;rcases ov with⟨_,hi,_⟩|⟨a,xs,_,_,rfl,h2,_⟩
  ·simp only[imm]at hi;cases hi
  ·exact⟨a,xs,rfl,h2⟩
 obtain⟨a,xs,rfl,ha⟩:=rg;refine⟨.ref a,hv,.inl ⟨rfl,xs,SqL.of ha⟩,qe U Y H P F d U' _ S h1 λv1 H2 F2 S2=>?_⟩;have tE:dAt (.l t) (U'.getD j .none) []=cz (.l t,.list ds):=by rw[hU];rfl
 obtain⟨b',lA,e',vY,hl,S3,_⟩:=S2.put hm hv tE (show wk H2 (.ref a) [] (.ref a) from rfl);cases e'
 rw[hU]at S3;refine⟨a,lA,v1,rfl,rfl,vY,?_,k Y _ F2 S3⟩;rw[hl];exact gT hz (by rw[dB];decide)
def a8j(iw:i≠j):∀U p,U2 i kt fk fe U=cz p->p.2.getD j .none=U.getD j .none:=λU p h=>by
 obtain⟨k,_,g1⟩:=bnd h;obtain⟨d,_,g2⟩:=bnd g1;have key:∀x:D,(U.set i x).getD j .none=U.getD j .none:=λx=>by
  rw[ah,ah,bS iw]
 cases hx:U.getD i .none with
 |dict kvs=>
  rw[hx]at g2;have nW:(if (n6 kt k&&decide (kvs.length<1000000)&&scal d)=rp then cz ((w6 kvs k).getD d,U.set i (.dict (C4 kvs k d))) else p4)=cz p:=g2;by_cases c:(n6 kt k&&decide (kvs.length<1000000)&&scal d)=rp
  ·rw[aE c]at nW;cases nW;exact key _
  ·rw[aM c]at nW;cases nW
 |_=>rw[hx]at g2;cases g2
def b9P(he:PXE X M e f t M1)(hs:fx e p4 pos.line X.env=pure xn:=by rfl):PSX X w ML M (.Expr e pos) (b3q f) M1:=by
 obtain⟨te,pe,qe⟩:=he;refine .mk ⟨_,Q1 pe hs,λD U Y H P F o S hg k=>?_⟩;obtain⟨⟨d,U'⟩,h1,g1⟩:=bnd hg;cases g1
 refine qe U Y H P F d U' _ S h1 λv H' F' S'=>?_
 obtain⟨l1,l2,S2⟩:=S';obtain⟨G,a1,a2,a3⟩:=S2.all;have xK:StAll X.K H' F' (.own t::M1) (d::U') (cz v::Y) G:=by simpa using a1
 simp only[StAll]at xK;obtain⟨d',r',o',s',fv,G2,e1,e2,rfl,_,h5⟩:=xK;cases e1
 cases e2
 exact k Y H' F' ⟨⟨G2,h5,(bV.mp a2).2.1,λa ha=>a3 a (aj _ ha)⟩,S2.lst,S2.prot⟩
end
def b3t(i:Nat)(f:EvE):EvS:=λU=>(f U).bind λd=>(asI d).bind λn=>(asI (U.getD i .none)).bind λm=>cz (.nx (U.set i (.int (m+n))))
section
variable {X:Cx}{M ML:List Md}{e:Expr}{f:EvE}{c:Cat}{u:Ty}{pos pos':fV}
def b9Q(i:Nat)(hN:X.N.Nodup)(he:PX X M e f c)(hi:X.N[i]?=cz x:=by rfl)(hx:autoParam (Loc X.env.scope x) ZX._auto_1)(hm:M[i]?=cz (.own .i):=by rfl)(hf:autoParam (X.fn x=rp\/X.env.scope.names.lookup x=cz .local) ZW._auto_1) :
  PSX X u ML M (.AugAssign (.Name x pos') .Add e pos) (b3t i f) M:=by
 obtain⟨te,pe,qe⟩:=he.out;refine .mk ⟨_,b8G hN hi hx pe b8H hf,λD U Y H P F o S hg k=>?_⟩;obtain⟨d,h1,g1⟩:=bnd hg;obtain⟨n,h2,g2⟩:=bnd g1;obtain⟨m,h3,g3⟩:=bnd g2;cases g3
 cases V6 h2
 have h4:=V6 h3;obtain⟨v,fv,hv,ov,_⟩:=S.toE.get hm;rw[h4]at ov;obtain⟨_,_,dv⟩:=a2N ov;have ev:=dv.int_inv;refine⟨v,hv,qe U Y H P F _ _ S.toE h1 λw H1 e1 r1=>⟨m,n,ev,r1.den.int_inv,?_⟩⟩;have S1:=S.grow e1;have:=S1.set (u:=.i) (v:=.int (m+n)) (d:=.int (m+n)) (fp:=[]) hm (Same.refl _) (by simp only[Own,bT];exact⟨trivial,by simp only[imm],den_int⟩) bE λa ha=>(nomatch ha)
 rw[set_same hm]at this;exact k _ _ _ this
end
def intsOf:List D->Option (List Int)
 |[]=>cz []
 |.int i::r=>(intsOf r).map (i::·)
 |_=>p4
def O9(i:Int)(r:List Int):Int:=r.foldl (λa b=>if b>a then b else a) i
def Z6:List D->Option D
 |[.list ds]=>(intsOf ds).bind λis=>match is with
  |[]=>p4
  |i::r=>cz (.int (O9 i r))
 |_=>p4
theorem F9:∀{ds:List D} {is:List Int},intsOf ds=cz is->ds=is.map .int
 |[],is,h=>by cases h;rfl
 |.int i::r,is,h=>by
  obtain⟨js,h1,rfl⟩:=dN.mp (show (intsOf r).map (i::·)=cz is from h);rw[aB,<-F9 h1]
 |.none::_,_,h|.bool _::_,_,h|.str _::_,_,h|.list _::_,_,h|.tuple _::_,_,h|.dict _::_,_,h=>nomatch h
def a0k(is:List Int):intsOf (is.map .int)=cz is:=by
 induction is with
 |nil=>rfl
 |cons i is ih=>show (intsOf (is.map .int)).map (i::·)=_;rw[ih];rfl
theorem a9A:∀(r:List Int) (i:Int),i<=O9 i r/\(∀x∈r,x<=O9 i r)/\(O9 i r=i\/O9 i r∈r)
 |[],i=>⟨xS _,λx hx=>(nomatch hx),.inl rfl⟩
 |y::r,i=>by
  obtain⟨h1,h2,h3⟩:=a9A r (if y>i then y else i);have e:O9 i (y::r)=O9 (if y>i then y else i) r:=rfl;rw[e];refine⟨?_,λx hx=>?_,?_⟩
  ·by_cases c:y>i
   ·rw[aE c]at h1 ⊢;lia
   ·rw[aM c]at h1 ⊢;exact h1
  ·rcases aN.mp hx with z|z
   ·subst z;by_cases c:x>i
    ·rw[aE c]at h1 ⊢;exact h1
    ·rw[aM c]at h1 ⊢;lia
   ·exact h2 x z
  ·rcases h3 with z|z
   ·by_cases c:y>i
    ·rw[aE c]at z ⊢;exact .inr (by rw[z];exact aK)
    ·rw[aM c]at z ⊢;exact .inl z
   ·exact .inr (ar _ z)
section
variable {X:Cx}
def a8k{ns:List Int}:∀{us:List ai},Vals (ns.map V.int) us->∃xs:List (Int×Tok),us=xs.map (λp=>gq p.1 p.2)/\xs.map (·.1)=ns:=by
 induction ns with
 |nil=>intro us r;cases r;exact⟨[],rfl,rfl⟩
 |cons n ns ih=>
  intro us r;cases r with
  |cons r1 r2=>
   obtain⟨t,rfl⟩:=r1;obtain⟨xs,h1,h2⟩:=ih r2;exact⟨(n,t)::xs,by rw[aB,<-h1],by rw[aB,h2]⟩
def b1c(hc:X.calm=rp):CallR X (.builtin "max") (λxs H Q=>∃(p:aC) (i:Int) (r:List Int),xs=[.ref p]/\SqX X.K H p ((i::r).map V.int)/\Q (.int (O9 i r)) H):=by
 intro pins s Y H xs us Q I rv h;obtain⟨p,i,r,rfl,hp,q⟩:=h;obtain⟨u,rfl,rx⟩:=vals1 rv;cases (show u=bt p from rx)
 obtain⟨_,its,n,tZ,ho⟩:=hp.ok I;obtain⟨ys,h1,h2⟩:=a8k tZ;have e1:its.toArray=intItems ys.toArray:=by rw[h1];simp[intItems]
 have hl:s.heap.IsList p (intItems ys.toArray):=⟨_,ho,rfl,n,by rw[<-e1]⟩;have hlen:ys.length=r.length+1:=by have:=dG dQ h2;simpa using this
 have num:∀j,j<ys.length->pM ys.toArray j=(i::r).getD j 0:=λj hj=>by
  have:(ys.map (·.1))[j]?=(i::r)[j]?:=by rw[h2]
  unfold pM;rw[ah,<-this];simp
 refine max_intList (I.ok.hd hc) hl (by simp;lia) λv h' tk hv hk=>?_
 obtain⟨t,rfl⟩:=intItems_at hv;obtain⟨b1,b2⟩:=argBest_gt (pM ys.toArray) (ys.toArray.size-1);have oN:ys.toArray.size=r.length+1:=by simp[hlen]
 have hb:argBest (λi j=>decide (pM ys.toArray i>pM ys.toArray j)) (ys.toArray.size-1)<ys.length:=by lia
 have hm:pM ys.toArray (argBest (λi j=>decide (pM ys.toArray i>pM ys.toArray j)) (ys.toArray.size-1))=O9 i r:=by
  obtain⟨g1,g2,g3⟩:=a9A r i;generalize argBest (λi j=>decide (pM ys.toArray i>pM ys.toArray j)) (ys.toArray.size-1)=a at b1 b2 hb;have up:pM ys.toArray a<=O9 i r:=by
   rw[num a hb];have iN:(i::r).getD a 0∈i::r:=by
    rw[ah,ab (by simp;lia)];exact dh _
   rcases aN.mp iN with z|z
   ·rw[z];exact g1
   ·exact g2 _ z
  have dn:O9 i r<=pM ys.toArray a:=by
   have iN:O9 i r∈i::r:=by
    rcases g3 with z|z
    ·rw[z];exact aK
    ·exact ar _ z
   obtain⟨j,hj,ej⟩:=eN.mp iN;have sC:j<ys.length:=by simp at hj;lia
   have:=b2 j (by lia);rw[num j sC,ah,ab hj]at this;have e3:((i::r)[j]?).getD 0=(i::r)[j]:=by rw[ab hj];rfl
   simp only[Option.getD_some]at this;lia
  lia
 rw[hm];exact⟨.int (O9 i r),H,I.kept (t':=tk) λb o e=>hk b o e,⟨t,rfl⟩,q⟩
def a9B(hc:X.calm=rp):a6u X (.builtin "max") Z6:=by
 refine⟨_,b1c hc,λxs H ds d Q hd hg q=>?_⟩
 match ds,hg with
 |[.list es],hg=>
  obtain⟨is,h1,g1⟩:=bnd (show (intsOf es).bind _=cz d from hg);cases is with
  |nil=>cases g1
  |cons i r=>
   cases g1
   obtain⟨v,rfl,h⟩:=a0G hd;obtain⟨a,ys,rfl,h2,h3⟩:=h.list_inv;have he:=F9 h1;subst he;have hv:ys=(i::r).map V.int:=by
    clear h1 hg hd h h2 q;generalize (i::r)=l at h3
    induction l generalizing ys with
    |nil=>exact h3.nil_inv
    |cons x l ih=>
     obtain⟨w,rs,rfl,k1,k2⟩:=h3.cons_inv;rw[k1.int_inv,ih _ k2];rfl
   subst hv;exact⟨a,i,r,rfl,h2,q _ (by simp only[imm]) λ_=>den_int⟩
 |[.none],hg|[.bool _],hg|[.str _],hg|[.dict _],hg|[.int _],hg|[.tuple _],hg=>cases hg
 |[],hg=>cases hg
 |d1::_::_,hg=>cases d1<;>cases hg
end
def Itv(K:ag)(a:aC)(n:Nat):It:=
 ⟨λi H=>i<n/\∃xs,SqL K H a xs/\xs.length=n,λi H x H'=>H'=H/\∀xs,SqL K H a xs->xs[n-1-i]?=cz x,λi _=>n<=i⟩
def b3u(a it:aC)(n:Nat):Turn P w K tg (Itv K a n) [it] it (λi h=>i<=n/\h.IsRevIter it a ((n:Int)-1-(i:Int))) where
 mem:=by simp
 obj:=λi h st b hb=>by
  have e:b=it:=by simpa using hb
  subst e;obtain⟨_,o,e,c,d⟩:=st;exact⟨o,e,λv z=>by rw[d]at z;cases z⟩
 keep:=λi h h' st k=>⟨st.1,st.2.at λo e=>k it (by simp) o e⟩
 item:=by
  intro X hP hw hK hc i pins s Y H E I hf st hg;subst hP hw hK;obtain⟨hi,xs,hq,qQ⟩:=hg;obtain⟨its,rv,p,hz⟩:=I.list hq;have jN:n-1-i<xs.length:=by lia
  obtain⟨u,hu,ru⟩:=rv.get (ab jN);obtain⟨f0,f1,f2,f3,f4,f5⟩:=hf it (by simp);have e:(n:Int)-1-(i:Int)=((n-1-i:Nat):Int):=by lia
  have hit:=st.2;rw[e]at hit;refine wpAny_pyNext_rev_item hit p.isList (x:=u) (by simpa using hu) λh' cQ sb=>?_
  have e2:((n-1-i:Nat):Int)-1=(n:Int)-1-((i+1:Nat):Int):=by lia
  rw[e2]at cQ;have I1:Inv X pins Y H {s with heap:=h'}:=I.turned (t':=s.toks) (λb o hb e=>(sb.2 b hb).trans e) f0 f1 f3 f4 f5;obtain⟨o,eo,c,d⟩:=id cQ;exact⟨u,rfl,b2o (s:={s with heap:=h'}) eo c d (by decide) ⟨_,H,I1,ru,⟨rfl,λys hy=>by rw[I.list_inj hy hq];exact ab jN⟩,⟨by lia,cQ⟩,λb hb=>(hf b hb).1⟩⟩
 done:=by
  intro X hP hw hK hc i pins s Y H E I hf st hg;subst hP hw hK;obtain⟨f0,f1,f2,f3,f4,f5⟩:=hf it (by simp);have hn:n<=i:=hg;have e:(n:Int)-1-(i:Int)=-1:=by have:=st.1;lia
  have hit:=st.2;rw[e]at hit;exact wpAny_pyNext_rev_end (I.ok.hd hc) hit λh' eb=>⟨rfl,I.turned (t':=s.toks) (λb o hb e=>eb b o hb e) f0 f1 f3 f4 f5⟩
 self:=λ_ _ _ _ _ st h=>wpAny_pyIter_revIter st.2 h
def iRv(a:EvE):EvA:=λU=>(a U).bind λd=>(asL d).bind λds=>cz ds.reverse
section
variable {X:Cx}{M:List Md}{a b e tg:Expr}{fa fb:EvE}{ca cb:Cat}{pos p apos cV:fV}
def c1U(K:ag)(ta:TA):TI:=λY H R=>ta Y H λvs H1=>∃a xs,vs=[.ref a]/\SqL K H1 a xs/\R (Itv K a xs.length) H1
open PyProof.Rows in
def b9R(hg:Gl X "reversed")(hm:X.mg "reversed"=p4)(ha:PA X [a] ta)(hs:au [a] X.env=[(xn,cI a X.env)]:=by rfl):PI X tg (.Call (.Name "reversed" p) [a] [] pos) (c1U X.K ta):=by
 intro pins s Y H R I h;refine Call_ (a0g I hg hm PyProof.Rows.Boot.«reversed» (gE (L2.thn (ha pos pins s Y H _ I h) λus s1 qz=>?_) hs rfl));obtain⟨vs,H1,I1,r1,q1⟩:=qz;obtain⟨l,xs,e,hq,q⟩:=q1;subst e;cases r1 with
 |cons r rr=>
  cases rr
  cases (show _=bt l from r)
  obtain⟨its,rv,pl,hz⟩:=I1.list hq;have hlen:its.toArray.size=xs.length:=by rw[bj];exact rv.length.symm
  refine call_reversed_list pl.isList ?_;refine wpAny_pyIter_revIter (it:=s1.heap.objs.size) (l:=l) (i:=(its.toArray.size:Int)-1) ⟨_,bz _ rfl,rfl,rfl⟩ ?_;refine⟨s1.heap.objs.size,[s1.heap.objs.size],_,_,H1,rfl,I1.kept (t':=s1.toks) λb o e=>aO _ e,b3u l _ xs.length,⟨bL _,?_⟩,λb hb=>?_,q⟩
  ·have e0:(xs.length:Int)-1-((0:Nat):Int)=(its.toArray.size:Int)-1:=by rw[hlen];lia
   rw[e0];exact⟨_,bz _ rfl,rfl,rfl⟩
  ·have e:b=s1.heap.objs.size:=by simpa using hb
   subst e;exact I1.fpOk (az _) (I1.hok.fresh (az _))
def b1d{K:ag}{a:aC}{xs:List V}:Walks (Itv K a xs.length) (λH=>SqL K H a xs) xs.reverse where
 go:=λi H h hi=>⟨by simpa using hi,xs,h,rfl⟩
 stop:=λi H h hi=>by show xs.length<=i;simpa using hi
 yld:=λi H x H' h hi y=>by
  refine⟨y.1,?_⟩;have lG:i<xs.length:=by simpa using hi
  rw[List.getElem?_reverse lG];exact y.2 xs h
theorem W2:∀{ds:List D} {xs:List V},DenAll K H xs ds->DenAll K H xs.reverse ds.reverse
 |[],_,h=>by rw[h.nil_inv];exact denAll_nil
 |d::ds,_,h=>by
  obtain⟨v,r,rfl,h1,h2⟩:=h.cons_inv;rw[gF,gF];exact (W2 h2).append (denAll_cons h1 denAll_nil)
def b6s(hm:X.mg "reversed"=p4)(h:PX X M a fa ca)(hc:frozen ca:=by trivial)(hg:Gl X "reversed":=by rfl)(he:au [a] X.env=[(xn,cI a X.env)]:=by rfl)(pR:au [a] X.env=(xn,cI a X.env)::au [] X.env:=by rfl) :
  PIX X M tg (.Call (.Name "reversed" p) [a] [] pos) (iRv fa):=by
 obtain⟨t,p,q⟩:=h.out;refine⟨_,b9R hg hm (k6 p n8 pR) he,λU Y H P F ds R S hf k=>?_⟩;obtain⟨d,h1,g1⟩:=bnd hf;obtain⟨es,h2,g2⟩:=bnd g1;cases K6 h2
 cases g2
 refine q U Y H P F _ _ S h1 λv H1 e1 r1=>?_
 obtain⟨aa,xs,rfl,k1,k2⟩:=(X8 hc r1).list_inv;exact⟨aa,xs,rfl,(N7 k1 j6).l,k _ xs.reverse _ H1 e1 b1d (λH2 e2=>(N7 k1 e2).l) (W2 k2)⟩
def a3d:D->D->Option D
 |.list ds,y=>if bp ds&&y.canLay0&&decide (y.depth<=450) then cz (.int (ds.countP λd=>aR d y)) else p4
 |_,_=>p4
def b9S(K:ag):V->List V->Hp->VK->Prop:=λx xs H Q=>∃p ys ds y d,x=.ref p/\xs=[y]/\SqX K H p ys/\DenAll K H ys ds/\Den K H y d/\bp ds=rp/\d.canLay0=rp/\d.depth<=450/\Q (.int (ds.countP λe=>aR e d)) H
def a5C(r:ji h us ds as):∀{j:Nat} {u:ai},us[j]?=cz u->∃d bs,ds[j]?=cz d/\Reads h u d bs:=by
 induction ds generalizing us as with
 |nil=>intro j u hu;cases r;simp at hu
 |cons d ds ih=>
  intro j u hu;cases r with
  |cons r1 r2=>
   cases j with
   |zero=>cases hu;exact⟨_,_,rfl,r1⟩
   |succ j=>exact ih r2 (by simpa using hu)
open Classical in
noncomputable def b6t(h:cM)(d:D)(u:ai):Bool:=decide (∃d' bs,Reads h u d' bs/\d'.canLay0=rp/\aR d' d=rp)
def a9C{d e:D}(r:Reads h u e bs)(hl:e.canLay0=rp):b6t h d u=aR e d:=by
 unfold b6t;cases q:aR e d with
 |true=>exact @aV _ (_) ⟨e,bs,r,hl,q⟩
 |false=>
  refine @aZ _ (_) ?_;rintro⟨d',FH,r1,r2,r3⟩;rw[SeqAt.Reads.unique d' e u _ _ r2 r1 r,q]at r3;cases r3
def b3v(hu:X.A.units+464<dF):MtR X "list.count" (b9S X.K):=by
 intro pins s Y H x xs v us Q I rx rv h;obtain⟨p,ys,ds,y,d,rfl,rfl,hp,EC,hd,c1,c2,c3,q⟩:=h;cases (show v=bt p from rx)
 obtain⟨w,rfl,rw⟩:=rv.one;obtain⟨_,its,n,tZ,ho⟩:=hp.ok I;obtain⟨as,ra⟩:=DenAll.reads I ds c1 EC tZ;obtain⟨bs,rb⟩:=Den.reads I d c2 hd rw;have lay:∀{l:List D} {e:D},bp l=rp->e∈l->e.canLay0=rp:=by
  intro l
  induction l with
  |nil=>intro e _ he;cases he
  |cons x l ih=>
   intro e hl he;simp only[bp,aL]at hl;rcases aN.mp he with z|z
   ·rw[z];exact hl.1
   ·exact ih hl.2 z
 have cnt:∀{us:List ai} {ds:List D} {as:List aC},ji s.heap us ds as->bp ds=rp->us.countP (b6t s.heap d)=ds.countP λe=>aR e d:=by
  intro us ds
  induction ds generalizing us with
  |nil=>intro as r _;cases r;rfl
  |cons d0 ds ih=>
   intro as r hl;simp only[bp,aL]at hl;cases r with
   |cons r1 r2=>rw[FU,FU,ih r2 hl.2,a9C r1 hl.1]
 refine call_meets tN ⟨_,ho,rfl⟩ PySem.F.entry_list_count (PySem.F.args_list_count_2 _ _) (SeqAt.list_countAt p its.toArray n p4 #[] w (b6t s.heap d)) ⟨ho,λu rY=>?_,⟨.int _,H,I.tok _,⟨_,rfl⟩,?_⟩⟩
 ·obtain⟨j,hj⟩:=cW.mp (show u∈its by simpa using rY);obtain⟨e,FH,he,re⟩:=a5C ra hj;have hle:=lay c1 (bo he);rw[a9C re hle];exact sN e d X.A.in1 s _ _ _ _ re rb hle c2 (by have:=Nat.min_le_right e.depth d.depth;show X.A.units+1+_<_;lia)
 ·have:=cnt ra c1;simp only[fW];rw[this];exact q
def b3w(hu:X.A.units+464<dF)(ha:PX X M a fa ca)(hb:PX X M b fb cb)(fN:dZ a "count" X.env (cI a X.env)=cI a X.env:=by rfl)
  (iT:((cD cV (au [b] X.env)).all (λx=>!x.1)&&(eV cV (dC [] X.env)).all (λx=>x.1.isSome)
   && decide (([b]:List Expr).length+([]:List eL).length+(if ([]:List eL).isEmpty then 0 else 1)<30))=rp:=by rfl)
  (fM:(apos.endLine==cV.line)=rp:=by rfl) (hs:au [b] X.env=(xn,cI b X.env)::au [] X.env:=by rfl) (eB:(cD cV (au [] X.env)).any (·.1)=xn:=by rfl) :
  PX X M (.Call (.Attribute a "count" apos) [b] [] cV) (e2 a3d fa fb) (.new .i):=by
 obtain⟨ta,pa,qa⟩:=ha.out;obtain⟨tb,pb,qb⟩:=hb.out;refine .mk ⟨_,a4n eP tN PySem.F.type_list_count (b3v hu) pa (k6 pb n8 hs) fN iT fM hs eB,λU Y H P F d Q S hf q=>?_⟩;obtain⟨x,y,h1,h2,h3⟩:=B8 hf;have hx:∃ds,x=.list ds/\(bp ds&&y.canLay0&&decide (y.depth<=450))=rp/\d=.int (ds.countP λd=>aR d y):=by
  cases x with
  |list ds=>
   have sH:(if (bp ds&&y.canLay0&&decide (y.depth<=450))=rp then cz (aP (ds.countP λd=>aR d y)) else p4)=cz d:=h3;by_cases c:(bp ds&&y.canLay0&&decide (y.depth<=450))=rp
   ·rw[aE c]at sH;exact⟨ds,rfl,c,(aF sH).symm⟩
   ·rw[aM c]at sH;cases sH
  |_=>cases h3
 obtain⟨ds,rfl,c,rfl⟩:=hx;rw[aL,aL]at c;refine qa U Y H P F _ _ S h1 λv H1 e1 r1=>?_
 obtain⟨p,xs,rfl,k1,k2⟩:=r1.den.list_inv;refine⟨.inl ⟨rfl,xs,k1.l⟩,qb U Y H1 P F y _ (S.grow e1) h2 λw H2 e2 r2=>?_⟩;exact⟨p,xs,ds,w,y,rfl,rfl,N7 k1 e2,k2.up e2,r2.den,c.1.1,c.1.2,bG c.2,q _ H2 (e1.trans e2) (K5 (by simp only[imm]) den_int (S.lst' (e1.trans e2)))⟩
end
def PXL(X:Cx)(M:List Md)(i:Nat)(e:Expr)(f:EvE)(c:Cat):Prop:=
 ∃t,PE X e t/\∀(U:List D) (Y:L2.St) (H P:Hp) (F:List aC) (d:D) (v:V) (Q:VK),StE X.K M U Y H P F->Y[i]?=cz (cz v)->Den X.K H v (U.getD i .none)->f U=cz d->(∀v H',Same H H'->ResR X.K c H H' F v d->Q v H')->t Y H Q
def b6u(X:Cx)(M:List Md)(i:Nat)(es:List Expr)(f:EvA):Prop:=
 ∃t,PA X es t/\∀(U:List D) (Y:L2.St) (H P:Hp) (F:List aC) (ds:List D) (v:V) (Q:List V->Hp->Prop),StE X.K M U Y H P F->Y[i]?=cz (cz v)->Den X.K H v (U.getD i .none)->f U=cz ds->(∀vs H',Same H H'->DenAll X.K H' vs ds->Q vs H')->t Y H Q
section
variable {X:Cx}{M M1 M2 ML M':List Md}{a e e0:Expr}{es:List Expr}{f fa:EvE}{c ca:Cat}{i j:Nat}{u w t:Ty}{x y:bM}{pos p:fV}
def PXL.of(h:PX X M e f c):PXL X M i e f c:=by
 obtain⟨t,p,q⟩:=h.out;exact⟨t,p,λU Y H P F d v Q S _ _ hf k=>q U Y H P F d Q S hf k⟩
def a6J(hN:X.N[i]?=cz x:=by rfl)(hv:autoParam (NmV X x) ZY._auto_1):PXL X M i (.Name x pos) (a4 i) .tmp:=by
 refine⟨_,C6 hN hv.1 hv.2.1 hv.2.2,λU Y H P F d v Q S hs Aa hf k=>?_⟩;cases hf
 exact⟨v,hs,k v H (Same.refl _) Aa⟩
def a6K:b6u X M i [] b8:=⟨_,n8,λU Y H P F ds v Q S _ _ hf q=>by cases hf;exact q [] H (Same.refl _) denAll_nil⟩
def X9(ha:PXL X M i a fa ca)(hr:b6u X M i es fr)(hs:au (a::es) X.env=(xn,cI a X.env)::au es X.env:=by rfl):b6u X M i (a::es) (a6 fa fr):=by
 obtain⟨ta,pa,qa⟩:=ha;obtain⟨tr,pr,qr⟩:=hr;refine⟨_,k6 pa pr hs,λU Y H P F ds v Q S hv hd hf q=>?_⟩;obtain⟨x,h1,hf⟩:=bnd hf;obtain⟨xs,h2,hf⟩:=bnd hf;cases hf
 exact qa U Y H P F _ v _ S hv hd h1 λv1 H1 e1 r1=>qr U Y H1 P F _ v _ (S.grow e1) hv (hd.up e1) h2 λvs H2 e2 r2=>q (v1::vs) H2 (e1.trans e2) (denAll_cons (r1.den.up e2) r2)
def a6L{k n:Nat}{ps:List bM}{m:List D->Option D}{f:EvA}(W:Has X.prog X.w X.K X.mg X.base x k ps (spD X.K n m u))(hr:Room k X.A)(h:b6u X M i (e0::es) f)(hu:u.shut=rp:=by rfl)(hl:(e0::es).length=n:=by rfl)(hfl:∀U ds,f U=cz ds->ds.length=(e0::es).length)
  (hg:Gl X x:=by rfl) (mH:(x==("__debug__":bM))=xn:=by decide) (he:au (e0::es) X.env=(xn,cI e0 X.env)::au es X.env:=by rfl) (gK:(cD pos (au es X.env)).any (·.1)=xn:=by rfl) :
  PXL X M i (.Call (.Name x p) (e0::es) [] pos) (eCl m f) (.new u):=by
 obtain⟨t,pa,qa⟩:=h;refine⟨_,a5k W hr pa hg mH he gK,λU Y H P F d v Q S hv Aa hf q=>?_⟩;obtain⟨ds,h1,hf⟩:=bnd hf;refine qa U Y H P F ds v _ S hv Aa h1 λvs H1 e1 r1=>?_
 show spD X.K n m u (vs++[]) H1 Q E0;rw[aX];refine⟨ds,d,by rw[r1.length,hfl U ds h1,hl],r1,hf,λv H' fp e o nd fr=>q v H' (e1.trans e) ⟨fp,o.shut_out (λa ha=>?_) u hu,nd,λa ha=>e1.free (fr a ha)⟩⟩;rcases ay.mp ha with z|z
 ·exact o.lst u a z
 ·exact S.lst' (e1.trans e) a z
def Y0(j i:Nat)(f:EvE):EvS:=λU=>match U.getD j .none with
 |.list ds=>if ds.length<1000000 then (f (U.set j (.list (ds++[U.getD i .none])))).bind λd=>cz (.nx ((U.set j (.list (ds++[U.getD i .none]))).set i d)) else p4
 |_=>p4
def b1e(j i:Nat){apos cV kZ:fV}(iw:i≠j)(yu:X.N.Nodup)(yr:X.N[j]?=cz x:=by rfl)(yt:X.N[i]?=cz y:=by rfl)(hm:M[j]?=cz (.own (.l t)):=by rfl)(wO:M[i]?=cz (.own t):=by rfl)
  (hL:PXL X (M.set i .dead) i e f (.new t)) (jS:PSsX X w ML M oU g M')
  (um:autoParam (NmV X x) ZY._auto_1)
  (qW:autoParam (NmV X y) ZY._auto_1)
  (D_:autoParam (Loc X.env.scope y) ZX._auto_1) (zV:autoParam (X.fn y=rp\/X.env.scope.names.lookup y=cz .local) ZW._auto_1)
  (fN:dZ (.Name x px) "append" X.env (cI (.Name x px) X.env)=cI (.Name x px) X.env:=by rfl)
  (iT:((cD cV (au [.Name y py] X.env)).all (λx=>!x.1)&&(eV cV (dC [] X.env)).all (λx=>x.1.isSome)
   && decide (([.Name y py]:List Expr).length+([]:List eL).length+(if ([]:List eL).isEmpty then 0 else 1)<30))=rp:=by rfl)
  (fM:(apos.endLine==cV.line)=rp:=by rfl) (hs:au [.Name y py] X.env=(xn,cI (.Name y py) X.env)::au [] X.env:=by rfl) (eB:(cD cV (au [] X.env)).any (·.1)=xn:=by rfl)
  (qo:fx (.Call (.Attribute (.Name x px) "append" apos) [.Name y py] [] cV) p4 pos.line X.env=pure xn:=by rfl) (uq:fx e (cz (.Name y pz)) kZ.line X.env=pure xn:=by rfl) :
  PSsX X w ML M (.Expr (.Call (.Attribute (.Name x px) "append" apos) [.Name y py] [] cV) pos::.Assign [.Name y pz] e kZ::oU) (f7 (Y0 j i f) g) M':=by
 obtain⟨te,pe,qe⟩:=hL;obtain⟨tr,pr,qr⟩:=jS.out;refine .mk ⟨_,a0x (Q1 (a4n eP kO kN X3 (C6 yr um.1 um.2.1 um.2.2) (k6 (C6 yt qW.1 qW.2.1 qW.2.2) n8 hs) fN iT fM hs eB) qo) (a0x (a7D yu yt D_ pe uq zV) pr),λD U Y H P F o S hg k=>?_⟩;obtain⟨o1,h1,g1⟩:=bnd hg;have hl:∃ds d,U.getD j .none=.list ds/\ds.length<1000000/\f (U.set j (.list (ds++[U.getD i .none])))=cz d/\o1=.nx ((U.set j (.list (ds++[U.getD i .none]))).set i d):=by
  unfold Y0 at h1;cases hx:U.getD j .none with
  |list ds=>
   rw[hx]at h1;have nV:(if ds.length<1000000 then (f (U.set j (.list (ds++[U.getD i .none])))).bind λd=>cz (Out.nx ((U.set j (.list (ds++[U.getD i .none]))).set i d)) else p4)=cz o1:=h1;by_cases c:ds.length<1000000
   ·rw[aE c]at nV;obtain⟨d,z1,z2⟩:=bnd nV;exact⟨ds,d,rfl,c,z1,(aF z2).symm⟩
   ·rw[aM c]at nV;cases nV
  |_=>rw[hx]at h1;cases h1
 obtain⟨ds,d,hU,hz,Ez,rfl⟩:=hl;obtain⟨vj,fj,uk,yS,_⟩:=S.toE.get hm;have rg:∃a xs,vj=.ref a/\H a=cz (.lst xs):=by
  rw[hU]at yS;simp only[Own]at yS;rcases yS with⟨_,hi,_⟩|⟨a,xs,_,_,rfl,h2,_⟩
  ·simp only[imm]at hi;cases hi
  ·exact⟨a,xs,rfl,h2⟩
 obtain⟨a,xs,rfl,ha⟩:=rg;obtain⟨vi,so,S1⟩:=S.pend.move wO;have vq:(M.set i .dead)[j]?=cz (.own (.l t)):=by rw[bS iw];exact hm
 have tE:dAt (.l t) (U.getD j .none) []=cz (.l t,.list ds):=by rw[hU];rfl
 obtain⟨b',lA,e',vY,hlen,S3,_⟩:=S1.put vq uk tE (show wk H (.ref a) [] (.ref a) from rfl);cases e'
 rw[hU]at S3;refine⟨.ref a,uk,.inl ⟨rfl,xs,SqL.of ha⟩,vi,so,a,lA,vi,rfl,rfl,vY,by rw[hlen];exact gT hz (by rw[dB];decide),?_⟩;have AF:StR X.K (M.set i .dead) (U.set j (.list (ds++[U.getD i .none]))) Y (upd H a (.lst (lA++[vi]))) P F:=S3;have kH:Den X.K (upd H a (.lst (lA++[vi]))) vi (U.getD i .none):=by
  obtain⟨v2,f2,vg,o2,_⟩:=AF.toE.get vq;rw[uk]at vg;cases vg
  have lF:∃x,U[j]?=cz x:=by
   obtain⟨G,q1,_⟩:=S.all;obtain⟨d0,_,_,_,_,z1,_⟩:=q1.at_ hm;exact⟨d0,z1⟩
  obtain⟨x0,vf⟩:=lF;have qB:j<U.length:=(aD.mp vf).1;have Er:(U.set j (.list (ds++[U.getD i .none]))).getD j .none=.list (ds++[U.getD i .none]):=by
   rw[ah,eu qB];rfl
  rw[Er]at o2;simp only[Own]at o2;rcases o2 with⟨_,hi,_⟩|⟨a2,ys,es,fs,ea,h2,ed,_,la⟩
  ·simp only[imm]at hi;cases hi
  ·cases ea
   cases ed
   rw[g8]at h2;cases h2
   have sv:lA.length=ds.length:=hlen;obtain⟨v3,f3,_,_,e3,d3,_⟩:=la.at_ (k:=ds.length) (d:=U.getD i .none) (by simp);rw[<-sv,bI (az _),fO]at e3;cases e3
   exact d3.den
 have Es:(U.set j (.list (ds++[U.getD i .none]))).getD i .none=U.getD i .none:=by
  rw[ah,ah,bS (fm iw)]
 refine qe _ Y _ P F d vi _ AF.toE so (by rw[Es];exact kH) Ez λv4 H4 e4 r4=>?_
 obtain⟨fp,o4,n4,f4⟩:=r4;have DX:(M.set i .dead)[i]?=cz .dead:=by
  have nT:i<M.length:=(aD.mp wO).1;rw[eu nT]
 have S5:=AF.set DX e4 o4 n4 f4;rw[List.set_set,set_same wO]at S5;exact qr D _ _ _ P _ o S5 g1 k
end
def b6v{X:Cx}{pins:List (aC×gc)}{Y:L2.St}{H:Hp}{s:ao}{h':cM}{t':Nat}{ch:List aC}{T:aC}{xs:List V}(I:Inv X pins Y H s)(k:∀b o,b∉ch->s.heap.get? b=cz o->h'.get? b=cz o)
  (hf:∀b∈ch,a3S X pins H b) (hT:s.heap.objs.size<=T) (new:ObjOk X.prog X.w (upd H T (.tup xs)) h' T (.tup xs)):Inv X pins Y (upd H T (.tup xs)) {s with heap:=h',toks:=t'}:=by
 have hn:H T=p4:=I.hok.fresh hT;have neT:∀b o,s.heap.get? b=cz o->b≠T:=λb o e z=>absurd (bx (aY e) (by rw[z];exact hT)) (dS _)
 have qV:∀b u,H b=cz u->b∉ch:=λb u e hb=>by rw[(hf b hb).1]at e;cases e
 refine I.step (g':=s.gens) (d':=s.drawn) (ch:=ch) (λb hb=>⟨(hf b hb).2.2.2.1,(hf b hb).2.1,(hf b hb).2.2.2.2.1,(hf b hb).2.2.2.2.2⟩) (λb o _ _ hc e _=>k b o hc e) (λb o _ _ hc e _=>⟨o.slots,k b o hc e⟩) (λb o _ e n=>by rw[c6 (neT b o e)];exact n)
  (λb o hc e=>⟨o,k b o hc e⟩) (λb ys e=>by rw[c6 (i4 e hn)];exact e) (λb o u e=>by rw[c6 (i4 e hn)];exact e) (λb ps e=>⟨#[],by rw[c6 (i4 e hn),e];simp⟩) (λm hm=>?_) (λb u e=>?_) I.bare
 ·obtain⟨o,es,ep,ho,r⟩:=hm;exact⟨o,es,ep,k _ o (λhb=>(hf _ hb).2.1 rfl) ho,r⟩
 ·by_cases hb:b=T
  ·subst hb;rw[g8]at e;cases e;exact new
  ·rw[c6 hb]at e;refine (I.hok b u e).stay (λc v hc q=>k c v ?_ q) (λc q=>by rw[c6 (i4 q hn)];exact q) λc ys q=>by rw[c6 (i4 q hn)];exact q
   rcases hc with z|z
   ·rw[z];exact qV b u e
   ·exact qV c _ z
def b6w{X:Cx}{pins:List (aC×gc)}{Y:L2.St}{H:Hp}{s:ao}{h':cM}{t':Nat}{ch:List aC}(I:Inv X pins Y H s)(k:∀b o,b∉ch->s.heap.get? b=cz o->h'.get? b=cz o)
  (hf:∀b∈ch,a3S X pins H b):Inv X pins Y H {s with heap:=h',toks:=t'}:=by
 have qV:∀b u,H b=cz u->b∉ch:=λb u e hb=>by rw[(hf b hb).1]at e;cases e
 refine I.step (g':=s.gens) (d':=s.drawn) (ch:=ch) (λb hb=>⟨(hf b hb).2.2.2.1,(hf b hb).2.1,(hf b hb).2.2.2.2.1,(hf b hb).2.2.2.2.2⟩) (λb o _ _ hc e _=>k b o hc e) (λb o _ _ hc e _=>⟨o.slots,k b o hc e⟩) (λb o _ e n=>n)
  (λb o hc e=>⟨o,k b o hc e⟩) (λb ys e=>e) (λb o u e=>e) (λb ps e=>⟨#[],by rw[e];simp⟩) (λm hm=>?_) (λb u e=>?_) I.bare
 ·obtain⟨o,es,ep,ho,r⟩:=hm;exact⟨o,es,ep,k _ o (λhb=>(hf _ hb).2.1 rfl) ho,r⟩
 ·refine (I.hok b u e).stay (λc v hc q=>k c v ?_ q) (λc q=>q) λc ys q=>q
  rcases hc with z|z
  ·rw[z];exact qV b u e
  ·exact qV c _ z
def Ite(K:ag)(a:aC):It:=
 ⟨λi H=>∃xs x,SqL K H a xs/\xs[i]?=cz x,λi H x H'=>∃T y,H T=p4/\H'=upd H T (.tup [.int i,y])/\x=.ref T/\∀xs,SqL K H a xs->xs[i]?=cz y,λi H=>∃xs,SqL K H a xs/\xs.length<=i⟩
def b1f{P:bA}{w:bQ}{K:ag}{elts:List Expr}{kk:Nat}{jv:fV}(a e it:aC)(EB:e≠it):Turn P w K (.Tuple elts kk jv) (Ite K a) [e,it] e (λi h=>(∃old,IsEnum h e it i old)/\h.IsListIter it a i) where
 mem:=by simp
 obj:=λi h st b hb=>by
  obtain⟨⟨old,he⟩,o,eo,c,d⟩:=st;rcases aN.mp hb with rfl|hb
  ·exact⟨_,he,λv z=>by cases z⟩
  ·cases aq.mp hb
   exact⟨o,eo,λv z=>by rw[d]at z;cases z⟩
 keep:=λi h h' st k=>by
  obtain⟨⟨old,he⟩,hit⟩:=st;exact⟨⟨old,k e (by simp) _ he⟩,hit.at λo x=>k it (by simp) o x⟩
 item:=by
  intro X hP hw hK hc i pins s Y H E I hf st hg;subst hP hw hK;obtain⟨xs,x,hq,hx⟩:=hg;obtain⟨its,rv,p,hz⟩:=I.list hq;obtain⟨u,hu,ru⟩:=rv.get hx;obtain⟨⟨old,he⟩,hit⟩:=st;have hle:a≠e:=λz=>by
   obtain⟨o,eo,c,_⟩:=p.isList;rw[z,he]at eo;cases eo
   exact absurd (show lr "enumerate"=lr "list" from c) (by decide)
  have Ed:a≠it:=λz=>by
   obtain⟨o,eo,c,_⟩:=p.isList;obtain⟨o2,Fp,c2,_⟩:=hit;rw[z,Fp]at eo;cases eo
   rw[c2]at c;exact absurd c (by decide)
  have W:=WalksT.enumerate (prog:=X.prog) (w:=X.w) (A:=X.A) (I.ok.hd hc) e it a EB hle Ed its.toArray;have nT:i<its.toArray.size:=by
   have:=(aD.mp hu).1;simpa using this
  refine W.item i s _ E nT ⟨⟨old,he⟩,hit,p.isList⟩ λT vals h' tk hP hT zp xB hk=>⟨.ref T,rfl,W.go elts kk jv i T {s with heap:=h',toks:=tk} _ E xB λh2 wB uC=>?_⟩
  obtain⟨t,y,hy,rfl⟩:=hP;have ey:y=u:=by
   have h1:its[i]?=cz y:=by simpa using hy
   rw[hu]at h1;exact (aF h1).symm
  subst ey;have BG:=W.apart i T h' xB;obtain⟨oT,eT,cT⟩:=zp;have hn:H T=p4:=I.hok.fresh hT;have new:ObjOk X.prog X.w (upd H T (.tup [.int i,x])) h2 T (.tup [.int i,x]):=by
   refine⟨by rw[dB];show 2<=_;decide,[.int i t,y],?_,oT,uC T oT BG eT,cT⟩;exact .cons ⟨t,rfl⟩ (.cons ru .nil)
  refine⟨.ref T,upd H T (.tup [.int i,x]),b6v (s:=s) (t':=tk) I (λb o hb q=>uC b o hb (hk b o hb q)) hf hT new,rfl,⟨T,x,hn,rfl,rfl,λys Dd=>by rw[I.list_inj Dd hq];exact hx⟩,⟨wB.1,wB.2.1⟩,λb hb=>?_⟩;rw[c6 (λz=>BG (by rw[<-z];exact hb))];exact (hf b hb).1
 done:=by
  intro X hP hw hK hc i pins s Y H E I hf st hg;subst hP hw hK;obtain⟨xs,hq,hx⟩:=hg;obtain⟨its,rv,p,hz⟩:=I.list hq;have hl:=rv.length;obtain⟨⟨old,he⟩,hit⟩:=st;exact wpAny_pyNext_enum_end (I.ok.hd hc) he hit p.isList (gi (by simp;lia)) λh' hx=>⟨rfl,b6w (t':=s.toks) I (λb o hb y=>hx b o (λz=>hb (by simp[z])) y) hf⟩
 self:=λ_ _ _ _ _ st h=>by
  obtain⟨⟨old,he⟩,_⟩:=st;exact wpAny_pyIter_enum he h
def E4:List D->Nat->List D
 |[],_=>[]
 |d::ds,k=>.tuple [.int k,d]::E4 ds (k+1)
def iEn(a:EvE):EvA:=λU=>(a U).bind λd=>(asL d).bind λds=>cz (E4 ds 0)
theorem a3e:∀(ds:List D) (k:Nat),(E4 ds k).length=ds.length
 |[],_=>rfl
 |d::ds,k=>by show (E4 ds (k+1)).length+1=_;rw[a3e ds];rfl
theorem a3f:∀(ds:List D) (k i:Nat) (d:D),ds[i]?=cz d->(E4 ds k)[i]?=cz (.tuple [.int ((k+i:Nat):Int),d])
 |[],_,i,d,h=>by simp at h
 |d0::ds,k,0,d,h=>by
  have:d0=d:=by simpa using h
  subst this;rfl
 |d0::ds,k,i+1,d,h=>by
  have:=a3f ds (k+1) i d (by simpa using h);show (E4 ds (k+1))[i]?=_;rw[this,gx,jM 1]
section
variable {X:Cx}{M ML:List Md}{a e iter:Expr}{elts:List Expr}{kk:Nat}{jv pos p:fV}{fa:EvE}{ca:Cat}{u:Ty}{body:List iO}{g:EvS}
def c3z(K:ag)(ta:TA):TI:=λY H R=>ta Y H λvs H1=>∃a xs,vs=[.ref a]/\SqL K H1 a xs/\R (Ite K a) H1
open PyProof.Rows in
def b6x(hg:Gl X "enumerate")(hm:X.mg "enumerate"=p4)(ha:PA X [a] ta)(hs:au [a] X.env=[(xn,cI a X.env)]:=by rfl):PI X (.Tuple elts kk jv) (.Call (.Name "enumerate" p) [a] [] pos) (c3z X.K ta):=by
 intro pins s Y H R I h;refine Call_ (a0g I hg hm PyProof.Rows.Boot.«enumerate» (gE (L2.thn (ha pos pins s Y H _ I h) λus s1 qz=>?_) hs rfl));obtain⟨vs,H1,I1,r1,q1⟩:=qz;obtain⟨l,xs,e,hq,q⟩:=q1;subst e;cases r1 with
 |cons r rr=>
  cases rr
  cases (show _=bt l from r)
  obtain⟨its,rv,pl,hz⟩:=I1.list hq;refine call_enumerate_list pl.isList λh' he hit oN hk=>?_
  refine wpAny_pyIter_enum he ?_;refine⟨s1.heap.objs.size+1,[s1.heap.objs.size+1,s1.heap.objs.size],_,_,H1,rfl,I1.kept (t':=s1.toks) hk,b1f l _ _ (Nat.succ_ne_self _),⟨⟨_,he⟩,hit⟩,λb hb=>?_,q⟩;have vE:s1.heap.objs.size<=b:=by
   rcases aN.mp hb with z|z
   ·rw[z];exact xO _
   ·rw[aq.mp z];exact az _
  exact I1.fpOk vE (I1.hok.fresh vE)
def c1V(X:Cx)(M:List Md)(tg iter:Expr)(f:EvE):Prop:=
 ∃wi,PI X tg iter wi/\∀(U:List D) (Y:L2.St) (H P:Hp) (F:List aC) (ds:List D) (R:It->Hp->Prop),StE X.K M U Y H P F->f U=cz (.list ds)->
  (∀a xs H1,Same H H1->(∀H2,Same (cut H1 F) H2->SqL X.K H2 a xs)->DenAll X.K (cut H1 F) xs ds->R (Ite X.K a) H1)->wi Y H R
def b9T(hm:X.mg "enumerate"=p4)(h:PX X M a fa ca)(hc:frozen ca:=by trivial)(hg:Gl X "enumerate":=by rfl)(he:au [a] X.env=[(xn,cI a X.env)]:=by rfl)(pR:au [a] X.env=(xn,cI a X.env)::au [] X.env:=by rfl) :
  c1V X M (.Tuple elts kk jv) (.Call (.Name "enumerate" p) [a] [] pos) fa:=by
 obtain⟨t,p,q⟩:=h.out;refine⟨_,b6x hg hm (k6 p n8 pR) he,λU Y H P F ds R S hf k=>?_⟩;refine q U Y H P F _ _ S hf λv H1 e1 r1=>?_
 obtain⟨aa,xs,rfl,k1,k2⟩:=(X8 hc r1).list_inv;exact⟨aa,xs,rfl,(N7 k1 j6).l,k _ xs H1 e1 (λH2 e2=>(N7 k1 e2).l) k2⟩
def b3x(h:iI f U=cz ps):f U=cz ps:=by
 obtain⟨ds,h1,g1⟩:=bnd h;by_cases c:c7 ds=rp
 ·have:(if c7 ds=rp then cz ds else p4)=cz ps:=g1;rw[aE c]at this;rw[h1,this]
 ·have:(if c7 ds=rp then cz ds else p4)=cz ps:=g1;rw[aM c]at this;cases this
def a5D{set:List D->D->Option (List D)}{m:D->Prop}(hc:X.calm=rp)(hp:oQ (a_ X.prog X.w) X.A X.env X.xe)(hi:c1V X M tg iter fa)(hg:PG X tg gt)(hs:b2Y X.K M MB gt set m)(hm:∀U ds,fi U=cz ds->∀d∈ds,m d)(Ey:∀{U ps},fi U=cz ps->iEn fa U=cz ps)(hb:PSsX X u M MB body g M)
  (hf:∀x,fy iter X.env x=pure x:=by intro _;rfl):PSX X u ML M (.For tg iter body [] pos) (y6 fi set g) M:=by
 obtain⟨wi,pi,qi⟩:=hi;obtain⟨tb,pb,qb⟩:=hb.out;refine .mk ⟨_,a7F hp hc pi hg pb hf,λD U Y H P F o S uF k=>?_⟩;obtain⟨ps,h1,g1⟩:=bnd uF;obtain⟨d0,h2,g2⟩:=bnd (Ey h1);obtain⟨ds,h3,g3⟩:=bnd g2;cases K6 h3
 have sr:E4 ds 0=ps:=aF g3;refine qi U Y H P F ds _ S.toE h2 λa xs H1 e1 uv hx=>?_
 have S1:=S.grow e1;have qQ:=hx.length;have gK:ps.length=ds.length:=by rw[<-sr,a3e]
 refine⟨λi n Y' H'=>n=xs.length-i/\i<=xs.length/\∃U' F',StR X.K M U' Y' H' (cut H1 F) F'/\U7 set g (ps.drop i) U'=cz o,⟨xs.length,by simp,bL _,U,F,⟨S1.all,S1.lst,Same.refl _⟩,g1⟩,?_⟩;rintro i n Y' H' ⟨rfl,hi,U',F',S',hfl⟩;have n_:Same (cut H1 F) (cut H' F'):=S'.prot;have q:=uv H' (n_.trans j6);by_cases jN:i<xs.length
 ·refine .inr ⟨⟨xs,xs[i],q,ab jN⟩,λY2 H2=>∃U2 F2,StR X.K M U2 Y2 H2 (cut H1 F) F2/\U7 set g (ps.drop (i+1)) U2=cz o,λY2 H2 ⟨U2,F2,S2,h2⟩=>⟨xs.length-(i+1),by lia,rfl,jN,U2,F2,S2,h2⟩,λx H2 hy=>?_⟩;obtain⟨T,y,hT,rfl,rfl,zh⟩:=hy;have sk:=zh xs q;have nT:i<ps.length:=by lia
  have om:ps.drop i=ps[i]::ps.drop (i+1):=dw nT;rw[om]at hfl;obtain⟨U1,vm,g4⟩:=bnd (show (set U' ps[i]).bind _=cz o from hfl);obtain⟨o1,uG,g5⟩:=bnd g4;obtain⟨d',sD,tD⟩:=(hx.up n_).getV sk;have tm:ps[i]=.tuple [.int (i:Nat),d']:=by
   have:=a3f ds 0 i d' sD;rw[sr,ab nT,iz]at this;exact aF this
  have tI:Same H' (upd H' T (.tup [.int i,y])):=j8 hT _;have S2:=S'.grow tI;have ET:T∉F':=λz=>by
   obtain⟨ys,e⟩:=S'.lst T z;rw[hT]at e;cases e
  have kH:Den X.K (cut (upd H' T (.tup [.int i,y])) F') (.ref T) (.tuple [.int (i:Nat),d']):=by
   have sE:Same (cut H' F') (cut (upd H' T (.tup [.int i,y])) F'):=K3 tI;have hd2:=tD.up sE;have ou:cut (upd H' T (.tup [.int i,y])) F' T=cz (.tup [.int i,y]):=i7 ET g8;simp only[Den];exact⟨T,[.int i,y],rfl,SqT.of ou,denAll_cons den_int (denAll_cons hd2 denAll_nil)⟩
  rw[tm]at vm;refine hs U' Y' _ (cut H1 F) F' (.ref T) _ U1 _ S2 kH (hm U ps h1 _ (by rw[<-tm];exact dh nT)) vm λY3 F3 S3=>qb _ U1 Y3 _ (cut H1 F) F3 o1 S3 uG ?_
  cases o1 with
  |nx U2=>exact λY4 H4 F4 S4=>⟨U2,F4,S4,g5⟩
  |ct U2=>exact λY4 H4 F4 S4=>⟨U2,F4,S4,g5⟩
  |bk U2=>
   have:o=.nx U2:=(aF g5).symm;subst this;exact λY4 H4 F4 S4=>k Y4 H4 F4 ⟨S4.all,S4.lst,S1.prot.trans S4.prot⟩
  |rt d=>
   have:o=.rt d:=(aF g5).symm;subst this;refine λv H4 fp o nd fr e=>k v H4 fp o nd (λa ha=>?_) (S1.prot.trans e)
   exact S1.prot.free (fr a ha)
 ·have e:i=xs.length:=by lia
  subst e;rw[qQ,<-gK,iY]at hfl;have:o=.nx U':=(aF hfl).symm;subst this;exact .inl ⟨⟨xs,q,az _⟩,k Y' H' F' ⟨S'.all,S'.lst,S1.prot.trans S'.prot⟩⟩
end
def insI(n:Int):List Int->List Int
 |[]=>[n]
 |m::ms=>if n<=m then n::m::ms else m::insI n ms
def srt:List Int->List Int
 |[]=>[]
 |n::ns=>insI n (srt ns)
theorem vals_ints:∀{vs:List ai} {ns:List Int},jk vs ns->Vals (ns.map V.int) vs
 |_,_,.nil=>.nil
 |_,_,.cons n t r=>.cons ⟨t,rfl⟩ (vals_ints r)
theorem a4D:∀{ns:List Int} {vs:List ai},Vals (ns.map V.int) vs->jk vs ns
 |[],vs,h=>by
  have h':Vals [] vs:=h;cases h'
  exact .nil
 |n::ns,vs,h=>by
  have h':Vals (V.int n::ns.map V.int) vs:=h;cases h' with
  |cons r rr=>
   obtain⟨t,rfl⟩:=r;exact .cons n t (a4D rr)
theorem b9U:∀ns:List Int,c7 (ns.map aP)=rp
 |[]=>by simp only[cX,c7]
 |n::ns=>by simp only[aB,c7,imm,b9U ns,eK]
def eD1(kt:Bool)(fk fv:EvE):EvE:=λU=>(fk U).bind λk=>(fv U).bind λd=>if n6 kt k then cz (.dict [(k,d)]) else p4
section
variable {X:Cx}{M:List Md}{k v:Expr}{fk fv:EvE}{ck:Cat}{kt:Bool}{u:Ty}{pos:fV}
def b1g(hu:X.A.units+464<dF)(hk:PE X k tk)(hv:PE X v tv):PE X (.Dict [cz k] [v] pos) (λY H Q=>∀p,H p=p4->tk Y (upd H p (f9 p [])) λkv H1=>tv Y H1 λvv H2=>∃kt kd,H2 p=cz (f9 p [])/\KeysAt X H2 kt [] kd kv/\Q (.ref p) (upd H2 p (f9 p [(kd,kv,vv)]))):=by
 intro pins s Y H Q I h;have I1:=I.laid (a:=s.heap.objs.size) (o:=f9 s.heap.objs.size []) (t':=s.toks) (λ_ _ q=>aO _ q) (az _) (b0V s.heap I.sysBelow);rw[arm_eval_Dict,zip_pairTrees [cz k] [v] X.env pos rfl rfl,dictDisplay_pairs (pairTrees [cz k] [v] X.env pos) (by simp[pairTrees]) (by rw[pairTrees_length _ _ _ _ rfl rfl];simp)];refine ae (mh (ae ?_));unfold subDict;refine ae (wpAny_alloc ?_);refine ae (cK ?_);rw[aE (by rw[pairTrees_length _ _ _ _ rfl rfl];simp)];refine ae ?_;refine pairTrees_cons_walk (L2.thn (hk pins _ Y _ _ I1 (h _ (I.hok.fresh (az _)))) λkv s2 ⟨x,H1,I2,rx,q⟩=>L2.thn (hv pins s2 Y H1 _ I2 q) λvv s3 qz=>?_);obtain⟨y,H2,I3,ry,kt,kd,e,K,q4⟩:=qz;refine pairTrees_nil_walk ?_;refine cK ?_;refine ae ?_;rw[qK];refine ae (ae (set_dict I3 (by lia) e K rx ry (by rw[dB];decide) λs' I'=>aA ?_));show aW _ _ (forIn ([]:List (ai×ai)) PUnit.unit _) _ _ _;rw[rS];exact aA (aA (aA (aA ⟨.ref _,_,I',rfl,q4⟩)))
def b3y(hu:X.A.units+464<dF)(hk:PX X M k fk ck)(hv:PX X M v fv (.new u)):PX X M (.Dict [cz k] [v] pos) (eD1 kt fk fv) (.new (.d kt u)):=by
 obtain⟨tk,pk,qk⟩:=hk.out;obtain⟨tv,pv,qv⟩:=hv.out;refine .mk ⟨_,b1g hu pk pv,λU Y H P F d Q S hf q=>?_⟩;obtain⟨kd,h1,g1⟩:=bnd hf;obtain⟨vd,h2,g2⟩:=bnd g1;by_cases c:n6 kt kd=rp
 ·rw[aE c]at g2;cases g2
  intro p hp;have s0:=j8 hp (f9 p []);have S0:StE X.K M U Y (upd H p (f9 p [])) P ([p]++F):=S.more s0 (λa ha=>by rw[aq.mp ha];exact hp) λa ha=>by rw[aq.mp ha];exact⟨⟨f9 p [],trivial⟩,g8⟩
  refine qk U Y _ P ([p]++F) kd _ S0 h1 λkv H1 s1 r1=>qv U Y H1 P ([p]++F) vd _ (S0.grow s1) h2 λvv H2 s2 qz=>?_
  obtain⟨fp,o,hn,nU⟩:=qz;have lg:H2 p=cz (f9 p []):=(s1.trans s2) _ _ g8;have wG:∀a∈fp,a≠p:=λa ha z=>by
   have:=nU a ha;rw[z,s1 _ _ g8]at this;cases this
  have hF:∀a∈(p::fp)++F,∃ys:MuO,upd H2 p (f9 p [(kd,kv,vv)]) a=cz ys.1:=λa ha=>by
   by_cases e:a=p
   ·subst e;exact⟨⟨f9 a _,trivial⟩,g8⟩
   ·rw[c6 e];rcases ay.mp ha with z|z
    ·rcases aN.mp z with z|z
     ·exact absurd z e
     ·exact o.lst u a z
    ·exact ((S0.grow s1).grow s2).lst a (aj _ z)
  have hc:Same (cut H2 (fp++([p]++F))) (cut (upd H2 p (f9 p [(kd,kv,vv)])) ((p::fp)++F)):=λa x hx=>by
   obtain⟨n1,n2⟩:=m9 hx;have sF:a≠p:=λz=>n1 (by rw[z];simp)
   refine i7 (λz=>n1 ?_) (by rw[c6 sF];exact n2);rcases ay.mp z with z|z
   ·rcases aN.mp z with z|z
    ·exact absurd z sF
    ·exact ak _ z
   ·exact aj _ (aj _ z)
  refine⟨kt,kd,lg,⟨(λe he=>nomatch he),F5 c,r1.den.up s2⟩,q _ _ (λa x hx=>?_) ⟨p::fp,?_,?_,λa ha=>?_⟩⟩
  ·rw[c6 (λz=>by rw[z,hp]at hx;cases hx)];exact (s0.trans (s1.trans s2)) _ _ hx
  ·simp only[Own];refine⟨p,[(kd,kv,vv)],[vd],fp++[],rfl,g8,rfl,by rw[aX],⟨by simp,λe he=>?_⟩,n5 (o.frame hc u λa ha=>c6 (wG a ha)) p7⟩;rw[aq.mp he];refine⟨F5 c,Den.imm_out hF kd (V4 _ (F5 c).1) ?_⟩;have dk:=r1.den.up s2;exact (Den.imm_out (F:=[p]) (λa ha=>by rw[aq.mp ha];exact⟨⟨f9 p [],trivial⟩,lg⟩) kd (V4 _ (F5 c).1) dk).up λa x hx=>by
    obtain⟨n1,n2⟩:=m9 hx;rw[c6 (λz=>n1 (by rw[z];simp))];exact n2
  ·exact cF.mpr ⟨λz=>wG p z rfl,hn⟩
  ·rcases aN.mp ha with z|z
   ·rw[z];exact hp
   ·exact s0.free (s1.free (nU a z))
 ·rw[aM c]at g2;cases g2
end
theorem a2y:∀{xs:List V} {us:List ai},xs.length=us.length->(∀(i:Nat) (x:V) (u:ai),xs[i]?=cz x->us[i]?=cz u->RelV x u)->Vals xs us
 |[],[],_,_=>.nil
 |[],_::_,h,_=>by simp at h
 |_::_,[],h,_=>by simp at h
 |x::xs,u::us,hl,h=>.cons (h 0 x u rfl rfl) (a2y (by simpa using hl) λi x u h1 h2=>h (i+1) x u (by simpa using h1) (by simpa using h2))
def G0(es:List (D×V×V)):Prop:=∀e∈es,∃n,e.1=.int n/\e.2.1=.int n
def EKv(e:D×V×V)(kv:Int×ai):Prop:=e.1=.int kv.1/\e.2.1=.int kv.1/\RelV e.2.2 kv.2
def b1h(h:gr Z4 es l):G0 es->∃kvs:List (Int×ai),Pairs (fH P w) l kvs/\gr EKv es kvs:=by
 induction h with
 |nil=>exact λ_=>⟨[],.nil,.nil⟩
 |@cons e x es l r _ ih=>
  intro hk;obtain⟨kvs,h1,h2⟩:=ih λe he=>hk e (ar _ he)
  obtain⟨n,e1,e2⟩:=hk e aK;obtain⟨hh,oZ,qX⟩:=r;rw[e2]at oZ;obtain⟨t,ht⟩:=(show ∃t,x.key=gq n t from oZ);exact⟨(n,x.val)::kvs,.cons (by rw[ht];simp[fH,jY]) rfl h1,.cons ⟨e1,e2,qX⟩ h2⟩
def b3z(h:gr EKv es kvs):es.map (·.1)=(kvs.map (·.1)).map aP:=by
 induction h with
 |nil=>rfl
 |cons r _ ih=>rw[aB,aB,aB,ih,r.1]
section
variable {X:Cx}{M:List Md}{a o:Expr}{fa:EvE}{ca:Cat}{pos p apos cV:fV}
def a0l(I:Inv X pins Y H s)(hH:H d=cz (f9 d es))(hk:G0 es) :
  ∃kvs ep,s.heap.DictAt (fH X.prog X.w) d kvs ep/\(d==fA)=xn/\es.length<=br/\gr EKv es kvs:=by
 obtain⟨h0,hl,hn,o,ents,ep,h1,h2,h3,h4⟩:=v6 I hH;obtain⟨kvs,p1,p2⟩:=b1h (P:=X.prog) (w:=X.w) h4 hk;refine⟨kvs,ep,⟨o,ents,h1,h2,h3,λx hx=>?_,p1,?_⟩,h0,hl,p2⟩
 ·obtain⟨j,hj⟩:=cW.mp (fS.mpr hx);obtain⟨e,he,hh,oZ,_⟩:=a1Q h4 hj;obtain⟨n,e1,e2⟩:=hk e (bo he);rw[e2]at oZ;obtain⟨t,ht⟩:=(show ∃t,x.key=gq n t from oZ);exact⟨n,by rw[ht];simp[fH,jY],by rw[hh,e1];rfl⟩
 ·rw[b3z p2]at hn;exact List.Pairwise.of_map aP (λa b h e=>h (by rw[e])) hn
def a8l(hc:X.calm=rp):CallR X (.type "list") (λxs H Q=>∃p es,xs=[.ref p]/\H p=cz (f9 p es)/\G0 es/\∀l,H l=p4->Q (.ref l) (upd H l (.lst (es.map (·.2.1))))):=by
 intro pins s Y H xs us Q I rv h;obtain⟨p,es,rfl,hH,hk,q⟩:=h;obtain⟨u,rfl,rx⟩:=vals1 rv;cases (show u=bt p from rx)
 obtain⟨kvs,ep,ou,h0,hl,hp⟩:=a0l I hH hk;have hlen:=gQ hp;refine W.kdl_call (W.kdl_dict (knd:=fH X.prog X.w) h0) (I.ok.hd hc) ou (by lia) λg1 tq ac cq keep ho rz=>?_
 refine⟨.ref s.heap.objs.size,_,I.laid (t':=tq) keep (az _) (show ObjOk X.prog X.w _ g1 _ (.lst (es.map (·.2.1))) from⟨by rw[af];exact hl,ac.toList,cq,?_,by rw[xV];exact ho⟩),rfl,q _ (I.hok.fresh (az _))⟩;refine a2y (by rw[af];have z1:=rz.1;have z2:ac.toList.length=ac.size:=aJ;lia) λi x u h1 h2=>?_
 rw[bh]at h2;obtain⟨k,y,h3,h4⟩:=rz.2 i u h2;rw[aQ]at h1;obtain⟨e,he,rfl⟩:=dN.mp h1;obtain⟨kv,g3,g4⟩:=K7 hp he;rw[h3]at g3;cases g3
 obtain⟨t,rfl⟩:=rJ h4;rw[g4.2.1];exact⟨t,rfl⟩
def a4E(v d:aC):HO:=.ext λh=>h.IsValuesView v d
def b1i{h':cM}(h:h'.IsValuesView v d):ObjOk P w H' h' v (a4E v d):=
 ⟨h,let⟨o,ho,_⟩:=h;⟨o,ho⟩,λx1 x2 ⟨o,ho,r⟩ hk=>⟨o,hk _ ho,r⟩⟩
def b1j(ho:PE X o to)(fN:dZ o "values" X.env (cI o X.env)=cI o X.env:=by rfl)(fM:(apos.endLine==cV.line)=rp:=by rfl) :
  PE X (.Call (.Attribute o "values" apos) [] [] cV) (λY H Q=>to Y H λx H1=>∃p es,x=.ref p/\H1 p=cz (f9 p es)/\G0 es/\∀l,H1 l=p4->Q (.ref l) (upd H1 l (a4E l p))):=by
 intro pins s Y H Q I h;refine wpAny_Call_method0_late fN fM (L2.thn (ho pins s Y H _ I h) λv s1 qz=>?_);obtain⟨x,H1,I1,r1,p,es,ex,hH,hk,q1⟩:=qz;subst ex;obtain rfl:v=bt p:=r1;obtain⟨kvs,ep,ou,h0,hl,hp⟩:=a0l I1 hH hk;refine⟨"dict","dict.values",tP,sQ,PySem.F.type_dict_values,o7 I1 hH,a0M I1 hH,nc rfl (PySem.evalArgs_none ?_)⟩;refine call_meetsIn sQ (o7 I1 hH) PySem.F.entry_dict_values (PySem.F.args_dict_values_1 _) (meets_dict_values (fH X.prog X.w) p h0) ⟨⟨kvs,ou.dictOf⟩,?_⟩;exact⟨.ref s1.heap.objs.size,_,I1.laid (a:=s1.heap.objs.size) (o:=a4E s1.heap.objs.size p) (t':=s1.toks) (λ_ _ q=>aO _ q) (az _) (b1i ⟨_,bz _ rfl,rfl,rfl⟩),rfl,q1 _ (I1.hok.fresh (az _))⟩
def a8m(hc:X.calm=rp):CallR X (.type "list") (λxs H Q=>∃v p es,xs=[.ref v]/\H v=cz (a4E v p)/\H p=cz (f9 p es)/\G0 es/\∀l,H l=p4->Q (.ref l) (upd H l (.lst (es.map (·.2.2))))):=by
 intro pins s Y H xs us Q I rv h;obtain⟨v,p,es,rfl,hV,hH,hk,q⟩:=h;obtain⟨u,rfl,rx⟩:=vals1 rv;cases (show u=bt v from rx)
 obtain⟨kvs,ep,ou,h0,hl,hp⟩:=a0l I hH hk;have Dn:s.heap.IsValuesView v p:=(show ObjOk X.prog X.w H s.heap v (a4E v p) from I.hok v _ hV).1;have hlen:=gQ hp;refine W.kdl_call (W.kdl_values (knd:=fH X.prog X.w)) (I.ok.hd hc) ⟨Dn,ou⟩ (by lia) λg1 tq ac cq keep ho rz=>?_
 refine⟨.ref s.heap.objs.size,_,I.laid (t':=tq) keep (az _) (show ObjOk X.prog X.w _ g1 _ (.lst (es.map (·.2.2))) from⟨by rw[af];exact hl,ac.toList,cq,?_,by rw[xV];exact ho⟩),rfl,q _ (I.hok.fresh (az _))⟩;refine a2y (by rw[af];have z1:=rz.1;have z2:ac.toList.length=ac.size:=aJ;lia) λi x u h1 h2=>?_
 rw[bh]at h2;obtain⟨k,h3⟩:=rz.2 i u h2;rw[aQ]at h1;obtain⟨e,he,rfl⟩:=dN.mp h1;obtain⟨kv,g3,g4⟩:=K7 hp he;rw[h3]at g3;cases g3
 exact g4.2.2
def intKeyed(h:DenKV K H es kvs)(hk:kvs.all (λp=>n6 xn p.1)=rp):G0 es:=λe he=>by
 have h1:e.1∈kvs.map (·.1):=by rw[<-h.keys];exact cY he
 obtain⟨kv,h2,h3⟩:=aG.mp h1;obtain⟨n,hn⟩:=(F5 (dP.mp hk kv h2)).2.2.2 rfl;have hd:=h.kden e he;rw[<-h3,hn]at hd;exact⟨n,by rw[<-h3,hn],hd.int_inv⟩
theorem a0O:∀{es:List (D×V×V)},G0 es->DenAll K H (es.map (·.2.1)) (es.map (·.1))
 |[],_=>denAll_nil
 |e::es,h=>by
  obtain⟨n,e1,e2⟩:=h e aK;rw[aB,aB,e1,e2];exact denAll_cons den_int (a0O λe he=>h e (ar _ he))
theorem a0P:∀{es:List (D×V×V)},G0 es->c7 (es.map (·.1))=rp
 |[],_=>by simp only[cX,c7]
 |e::es,h=>by
  obtain⟨n,e1,_⟩:=h e aK;simp only[aB,c7,e1,imm,a0P λe he=>h e (ar _ he),eK]
def a5E(a:EvE):EvE:=λU=>(a U).bind λd=>match d with
 |.dict kvs=>if kvs.all (λp=>n6 xn p.1) then cz (.list (kvs.map (·.1))) else p4
 |_=>p4
def b3A(hc:X.calm=rp)(hm:X.mg "list"=p4)(ha:PX X M a fa ca)(hg:Gl X "list":=by rfl)(he:au [a] X.env=(xn,cI a X.env)::au [] X.env:=by rfl)(gK:(cD pos (au [] X.env)).any (·.1)=xn:=by rfl) :
  PX X M (.Call (.Name "list" p) [a] [] pos) (a5E fa) (.new (.l .i)):=by
 obtain⟨ta,pa,qa⟩:=ha.out;refine .mk ⟨_,J9 (a8l hc) hg hm PyProof.Rows.Boot.«list» (k6 pa n8 he) (by decide) (by decide) he gK,λU Y H P F d Q S hf q=>?_⟩;obtain⟨x,h1,g1⟩:=bnd hf;cases x with
 |dict kvs=>
  by_cases c:kvs.all (λp=>n6 xn p.1)=rp
  ·have g2:(if kvs.all (λp=>n6 xn p.1) then cz (cA (kvs.map (·.1))) else p4)=cz d:=g1;rw[aE c]at g2;cases g2
   refine qa U Y H P F _ _ S h1 λv H1 e1 r1=>?_
   obtain⟨pp,es,rfl,k1,k2⟩:=r1.den.dict_inv;have hk:=intKeyed k2 c;refine⟨pp,es,rfl,k1,hk,λz hz=>q _ _ (e1.trans (j8 hz _)) ?_⟩;rw[<-k2.keys];exact X7 (a0O hk) (a0P hk) e1 hz (S.lst' e1)
  ·have g2:(if kvs.all (λp=>n6 xn p.1) then cz (cA (kvs.map (·.1))) else p4)=cz d:=g1;rw[aM c]at g2;cases g2
 |_=>cases g1
def a5F(a:EvE):EvE:=λU=>(a U).bind λd=>match d with
 |.dict kvs=>if kvs.all (λp=>n6 xn p.1)&&c7 (kvs.map (·.2)) then cz (.list (kvs.map (·.2))) else p4
 |_=>p4
def b3B(hc:X.calm=rp)(hm:X.mg "list"=p4)(ha:PX X M a fa ca)(hg:Gl X "list":=by rfl)(fN:dZ a "values" X.env (cI a X.env)=cI a X.env:=by rfl)(fM:(apos.endLine==cV.line)=rp:=by rfl)
  (he:au [.Call (.Attribute a "values" apos) [] [] cV] X.env=(xn,cI (.Call (.Attribute a "values" apos) [] [] cV) X.env)::au [] X.env:=by rfl) (gK:(cD pos (au [] X.env)).any (·.1)=xn:=by rfl) :
  PX X M (.Call (.Name "list" p) [.Call (.Attribute a "values" apos) [] [] cV] [] pos) (a5F fa) (.new (.l .i)):=by
 obtain⟨ta,pa,qa⟩:=ha.out;refine .mk ⟨_,J9 (a8m hc) hg hm PyProof.Rows.Boot.«list» (k6 (b1j pa fN fM) n8 he) (by decide) (by decide) he gK,λU Y H P F d Q S hf q=>?_⟩;obtain⟨x,h1,g1⟩:=bnd hf;cases x with
 |dict kvs=>
  have g2:(if kvs.all (λp=>n6 xn p.1)&&c7 (kvs.map (·.2)) then cz (cA (kvs.map (·.2))) else p4)=cz d:=g1;by_cases c:(kvs.all (λp=>n6 xn p.1)&&c7 (kvs.map (·.2)))=rp
  ·rw[aE c]at g2;cases g2
   rw[aL]at c;refine qa U Y H P F _ _ S h1 λv H1 e1 r1=>?_
   obtain⟨pp,es,rfl,k1,k2⟩:=r1.den.dict_inv;have hk:=intKeyed k2 c.1;refine⟨pp,es,rfl,k1,hk,λy hy=>?_⟩;have e2:=j8 hy (a4E y pp);refine⟨y,pp,es,rfl,g8,e2 _ _ k1,hk,λz hz=>q _ _ ((e1.trans e2).trans (j8 hz _)) ?_⟩;exact X7 (k2.vals.up e2) c.2 (e1.trans e2) hz (S.lst' (e1.trans e2))
  ·rw[aM c]at g2;cases g2
 |_=>cases g1
end
section
variable {X:Cx}{M:List Md}{e0:Expr}{es:List Expr}{f:EvA}{x:bM}{p pos:fV}
def b3C(W:Has X.prog X.w X.K X.mg X.base x k ps (spD X.K n m .f))(hr:Room k X.A)(h:PAX X M (e0::es) f)(hl:(e0::es).length=n:=by rfl)(hfl:∀U ds,f U=cz ds->ds.length=(e0::es).length)
  (hg:Gl X x:=by rfl) (mH:(x==("__debug__":bM))=xn:=by decide) (he:au (e0::es) X.env=(xn,cI e0 X.env)::au es X.env:=by rfl) (gK:(cD pos (au es X.env)).any (·.1)=xn:=by rfl) :
  PX X M (.Call (.Name x p) (e0::es) [] pos) (eCl m f) .tmp:=by
 obtain⟨t,pa,qa⟩:=h;refine .mk ⟨_,a5k W hr pa hg mH he gK,λU Y H P F d Q S hf q=>?_⟩;obtain⟨ds,h1,hf⟩:=bnd hf;refine qa U Y H P F ds _ S h1 λvs H1 e1 r1=>?_
 show spD X.K n m .f (vs++[]) H1 Q E0;rw[aX];refine⟨ds,d,by rw[r1.length,hfl U ds h1,hl],r1,hf,λv H' fp e o nd fr=>q v H' (e1.trans e) ?_⟩;simp only[Own]at o;exact o.2.up j6
end
def keysOk(kt:Bool)(kvs:List (D×D)):Bool:=kvs.all λp=>n6 kt p.1
def a9D(kt:Bool):D->D->Option D
 |.dict kvs,k=>if n6 kt k&&keysOk kt kvs then cz ((w6 kvs k).getD .none) else p4
 |_,_=>p4
def b1k{kvs:List (D×D)}{es:List (D×V×V)}(h:es.map (·.1)=kvs.map (·.1)):D8 kvs k=y8 es k:=by
 have e1:D8 kvs k=(kvs.map (·.1)).any λx=>aR x k:=by unfold D8;rw[List.any_map];rfl
 have e2:y8 es k=(es.map (·.1)).any λx=>aR x k:=by unfold y8;rw[List.any_map];rfl
 rw[e1,e2,h]
def c1W{X:Cx}(h:DenKV X.K H es kvs)(ho:keysOk kt kvs=rp)(hk:n6 kt k=rp)(hd:Den X.K H kv k):KeysAt X H kt es k kv:=by
 refine⟨λe he=>⟨?_,h.kden e he⟩,F5 hk,hd⟩;have hm:e.1∈kvs.map (·.1):=by rw[<-h.keys];exact cY he
 obtain⟨p,hp,e1⟩:=aG.mp hm;rw[<-e1];exact F5 (dP.mp ho p hp)
section
variable {X:Cx}{M:List Md}{a b:Expr}{fa fb:EvE}{ca cb:Cat}{kt:Bool}{pos:fV}
def b9V{es:List (D×V×V)}(hn:(es.map (·.1)).Nodup)(hk:∀e∈es,aR e.1 k=rp↔e.1=k)(h:DenKV K H es kvs)(he:e∈es)(gv:e.1=k):∃d,w6 kvs k=cz d/\Den K H e.2.2 d:=by
 obtain⟨j,hj⟩:=cW.mp he;have hl:kvs.length=es.length:=by have:=dG dQ h.keys;simpa using this.symm
 have hz:kvs=(es.map (·.1)).zip (kvs.map (·.2)):=by
  rw[h.keys,List.zip_map',List.map_id'' (λp=>rfl)]
 obtain⟨p,hp⟩:∃p,kvs[j]?=cz p:=⟨_,ab (by rw[hl];exact (aD.mp hj).1)⟩;have hd:(kvs.map (·.2))[j]?=cz p.2:=by rw[aQ,hp];rfl
 refine⟨p.2,?_,?_⟩
 ·rw[hz];exact a3c (by rw[af];exact hl) hk hn hj gv hd
 ·obtain⟨v,z1,z2⟩:=h.vals.get hd;rw[aQ,hj]at z1;cases z1
  exact z2
def b9W(X:Cx):V->List V->Hp->VK->Prop:=λx xs H Q=>∃p es kt k y,x=.ref p/\xs=[y]/\H p=cz (f9 p es)/\KeysAt X H kt es k y/\(y8 es k=xn->Q .non H)/\((es.map (·.1)).Nodup->∀e∈es,e.1=k->Q e.2.2 H)
def b6y(hu:X.A.units+464<dF):MtR X "dict.get" (b9W X):=by
 intro pins s Y H x xs v us Q I rx rv h;obtain⟨p,es,kt,k,y,rfl,rfl,hH,K,q1,q2⟩:=h;cases (show v=bt p from rx)
 obtain⟨w,rfl,rw⟩:=rv.one;have hn:=(v6 I hH).2.2.1;exact b3k (by lia) I hH K rw (λhf s' I'=>⟨.non,H,I',rfl,q1 hf⟩) λe he gv x s' I' r'=>⟨e.2.2,H,I',r',q2 hn e he gv⟩
def a8n(h:a9D kt d k=cz r):∃kvs,d=.dict kvs/\n6 kt k=rp/\keysOk kt kvs=rp/\r=(w6 kvs k).getD .none:=by
 cases d with
 |dict kvs=>
  have h':(if n6 kt k&&keysOk kt kvs then cz ((w6 kvs k).getD .none) else p4)=cz r:=h;by_cases c:(n6 kt k&&keysOk kt kvs)=rp
  ·rw[aE c]at h';rw[aL]at c;exact⟨kvs,rfl,c.1,c.2,(aF h').symm⟩
  ·rw[aM c]at h';cases h'
 |_=>cases h
def b6z{apos cV:fV}(hu:X.A.units+464<dF)(ha:PX X M a fa (.new .f))(hb:PX X M b fb cb)(fN:dZ a "get" X.env (cI a X.env)=cI a X.env:=by rfl)
  (iT:((cD cV (au [b] X.env)).all (λx=>!x.1)&&(eV cV (dC [] X.env)).all (λx=>x.1.isSome)
   && decide (([b]:List Expr).length+([]:List eL).length+(if ([]:List eL).isEmpty then 0 else 1)<30))=rp:=by rfl)
  (fM:(apos.endLine==cV.line)=rp:=by rfl) (hs:au [b] X.env=(xn,cI b X.env)::au [] X.env:=by rfl) (eB:(cD cV (au [] X.env)).any (·.1)=xn:=by rfl) :
  PX X M (.Call (.Attribute a "get" apos) [b] [] cV) (e2 (a9D kt) fa fb) (.new .f):=by
 obtain⟨ta,pa,qa⟩:=ha.out;obtain⟨tb,pb,qb⟩:=hb.out;refine .mk ⟨_,a8h vN vM (b6y hu) pa (k6 pb n8 hs) fN iT fM hs eB,λU Y H P F d Q S hf q=>?_⟩;obtain⟨x,y,h1,h2,h3⟩:=B8 hf;obtain⟨kvs,rfl,hk,hok,rfl⟩:=a8n h3;refine qa U Y H P F _ _ S h1 λv H1 e1 qz=>?_
 obtain⟨fp,o,nd,fr⟩:=qz;simp only[Own]at o;obtain⟨rfl,o⟩:=o;obtain⟨p,es,rfl,hH,dk⟩:=o.dict_inv;refine⟨⟨p,es,rfl,j6 _ _ hH⟩,qb U Y H1 P F y _ (S.grow e1) h2 λw H2 e2 r2=>?_⟩;have up:Same (cut H1 ([]++F)) (cut H2 F):=K2 e2 λa o ha lF=>by simpa using lF
 have B_:DenKV X.K (cut H2 F) es kvs:=DenKV.mono up kvs dk;have FA:DenKV X.K H2 es kvs:=DenKV.mono j6 kvs B_;have KK:=c1W FA hok hk r2.den;refine⟨p,es,kt,y,w,rfl,rfl,e2 _ _ (j6 _ _ hH),KK,λhf=>?_,λhn e he gv=>?_⟩
 ·have:w6 kvs y=p4:=O7 (by rw[b1k dk.keys];exact hf);rw[this]at q;refine q .non H2 (e1.trans e2) ⟨[],?_,bE,λa ha=>(nomatch ha)⟩;simp only[Own];exact⟨trivial,den_none⟩
 ·obtain⟨d',g',dd⟩:=b9V hn (λe he=>KK.eqv he) B_ he gv;rw[g']at q;refine q _ H2 (e1.trans e2) ⟨[],?_,bE,λa ha=>(nomatch ha)⟩;simp only[Own];exact⟨trivial,dd⟩
end
def frz:Md->Md
 |.own .i=>.own .i
 |.own _=>.own .f
 |m=>m
section
variable {K:ag}{M:List Md}{U:List D}{Y:L2.St}{H P:Hp}{F:List aC}{i j:Nat}{t:Ty}{ds es:List D}
def StR.extendL(iw:i≠j)(h:StR K M U Y H P F)(hi:M[i]?=cz (.own (.l t)))(hj:M[j]?=cz (.own (.l t)))(wj:U.getD i .none=.list ds)(wg:U.getD j .none=.list es) :
  ∃a b xs zs,Y[i]?=cz (cz (.ref a))/\Y[j]?=cz (cz (.ref b))/\H a=cz (.lst xs)/\H b=cz (.lst zs)/\xs.length=ds.length/\zs.length=es.length/\StR K (M.set j .dead) (U.set i (.list (ds++es))) Y (upd H a (.lst (xs++zs))) P F/\Den K (upd H a (.lst (xs++zs))) (.ref b) (.list es):=by
 obtain⟨G,h1,h2,h3⟩:=h.all;obtain⟨dj,oj,fj,si,pL,BY,yB,⟨vj,rfl,Oj⟩,Av,Fq⟩:=h1.at_ hj;rw[C8 BY]at wg;subst wg;simp only[Own]at Oj;rcases Oj with⟨_,lG,_⟩|⟨b,zs,es',gs,rfl,vG,mw,rfl,BI⟩
 ·simp only[imm]at lG;cases lG
 cases mw
 rw[Av]at h2;have q1:=Fq H F .dead (.list es) (cz (.ref b)) [] (λ_ _=>rfl) (Same.refl _) rfl;rw[set_same BY,set_same yB]at q1;have vt:(M.set j .dead)[i]?=cz (.own (.l t)):=by rw[bS (fm iw)];exact hi
 obtain⟨di,oi,f1,qU,nX,Fu,yC,⟨vi,rfl,Oi⟩,Ft,Fs⟩:=q1.at_ vt;rw[C8 Fu]at wj;subst wj;simp only[Own]at Oi;rcases Oi with⟨_,lG,_⟩|⟨a,xs,kj,fi,rfl,tJ,jO,rfl,BJ⟩
 ·simp only[imm]at lG;cases lG
 cases jO
 have sL:si++pL=qU++((a::fi)++nX):=by simpa using Ft
 have apart:=a1j h2;have iN:∀x∈si++pL,x∈F:=λx hx=>h3 x (by rw[Av];exact mem_mid hx)
 have uN:a∈si++pL:=by rw[sL];simp
 have Ai:a≠b:=λz=>apart b aK (by rw[<-z];exact uN)
 have xw:a∈F:=iN a uN;have sE:Same (cut H F) (cut (upd H a (.lst (xs++zs))) F):=λc o' yp=>by
  obtain⟨r1,r2⟩:=m9 yp;have ne:c≠a:=λz=>r1 (by rw[z];exact xw)
  exact i7 r1 (by rw[c6 ne];exact r2)
 have wJ:(qU++((a::fi)++nX)).Nodup:=by rw[<-sL];exact O4 h2
 have xt:a∉fi++nX:=by
  have:=(bV.mp wJ).2.1;rw[bP,cF]at this;exact this.1
 have xr:a∉qU:=λz=>(bV.mp wJ).2.2 a z a (by simp) rfl
 have Ah:a∉gs:=λz=>apart a (ar _ z) uN
 have LB:ListAll (Own K (upd H a (.lst (xs++zs))) F t) zs es gs:=BI.imp λv d f hf _ q=>q.frame sE t λx hx=>c6 λz=>Ah (by rw[<-z];exact hf x hx)
 have LA:ListAll (Own K (upd H a (.lst (xs++zs))) F t) xs ds fi:=BJ.imp λv d f hf _ q=>q.frame sE t λx hx=>c6 λz=>xt (ak _ (by rw[<-z];exact hf x hx))
 have own:Own K (upd H a (.lst (xs++zs))) F (.l t) (.ref a) (.list (ds++es)) (a::(fi++gs)):=by
  simp only[Own];exact .inr ⟨a,xs++zs,ds++es,fi++gs,rfl,g8,rfl,rfl,LA.append LB⟩
 have q2:=Fs _ _ (.own (.l t)) (.list (ds++es)) (cz (.ref a)) (a::(fi++gs)) (λx hx=>c6 λz=>by
  rcases ay.mp hx with y|y
  ·exact xr (by rw[<-z];exact y)
  ·exact xt (aj _ (by rw[<-z];exact y))) sE ⟨_,rfl,own⟩
 rw[set_same vt,set_same yC]at q2;have pq:∀x,(si++pL).count x=(qU++((a::fi)++nX)).count x:=λx=>by rw[sL]
 refine⟨a,b,xs,zs,yC,yB,tJ,vG,BJ.length,BI.length,⟨⟨_,q2,a0K h2 λx=>?_,λx hx=>?_⟩,λx hx=>?_,h.prot.trans sE⟩,den_list (.inl (.inl (by rw[c6 (fm Ai)];exact vG))) (ListAll.den (λv d f q=>q.den) LB)⟩
 ·have:=pq x;simp only[cU,bP,jC]at this ⊢;lia
 ·have wq:x∈qU++((a::fi)++nX)\/x∈gs:=by
   simp only[ay,aN,bP]at hx ⊢;rcases hx with z|z|(z|z)|z
   ·exact .inl (.inl z)
   ·exact .inl (.inr (.inl z))
   ·exact .inl (.inr (.inr (.inl z)))
   ·exact .inr z
   ·exact .inl (.inr (.inr (.inr z)))
  rcases wq with z|z
  ·exact iN x (by rw[sL];exact z)
  ·exact h3 x (by rw[Av];simp[z])
 ·by_cases z:x=a
  ·exact⟨⟨.lst (xs++zs),trivial⟩,by rw[z,g8]⟩
  ·rw[c6 z];exact h.lst x hx
end
def a1S(i j:Nat):EvS:=λU=>match U.getD i .none,U.getD j .none with
 |.list ds,.list es=>if ds.length+es.length<=1000000 then cz (.nx (U.set i (.list (ds++es)))) else p4
 |_,_=>p4
section
variable {X:Cx}{M M1 ML:List Md}{w t:Ty}{e iter:Expr}{f:EvE}{fi:EvA}{x y z:bM}{px py pz pm pos kZ vZ apos cV:fV}
def b6A(i j jm:Nat)(iw:i≠j)(yi:j≠jm)(Em:i≠jm)(hM:M=(M1.set j .dead).set jm .dead)(hc:X.calm=rp)(hp:oQ (a_ X.prog X.w) X.A X.env X.xe)(yu:X.N.Nodup)(hi:PIX X M1 (.Name z pm) iter fi)(hL:PXL X M j e f (.new (.l t)))
  (wO:M1[i]?=cz (.own (.l t)):=by rfl) (vq:M1[j]?=cz (.own (.l t)):=by rfl) (yg:M1[jm]?=cz mm:=by rfl) (yt:X.N[i]?=cz x:=by rfl) (yr:X.N[j]?=cz y:=by rfl) (E_:X.N[jm]?=cz z:=by rfl)
  (qW:autoParam (NmV X x) ZY._auto_1)
  (um:autoParam (NmV X y) ZY._auto_1)
  (Ec:autoParam (Loc X.env.scope y) ZX._auto_1) (yl:autoParam (X.fn y=rp\/X.env.scope.names.lookup y=cz .local) ZW._auto_1)
  (Eb:autoParam (Loc X.env.scope z) ZX._auto_1) (Ex:autoParam (X.fn z=rp\/X.env.scope.names.lookup z=cz .local) ZW._auto_1)
  (fN:dZ (.Name x px) "extend" X.env (cI (.Name x px) X.env)=cI (.Name x px) X.env:=by rfl)
  (iT:((cD cV (au [.Name y py] X.env)).all (λx=>!x.1)&&(eV cV (dC [] X.env)).all (λx=>x.1.isSome)
   && decide (([.Name y py]:List Expr).length+([]:List eL).length+(if ([]:List eL).isEmpty then 0 else 1)<30))=rp:=by rfl)
  (fM:(apos.endLine==cV.line)=rp:=by rfl) (hs:au [.Name y py] X.env=(xn,cI (.Name y py) X.env)::au [] X.env:=by rfl) (eB:(cD cV (au [] X.env)).any (·.1)=xn:=by rfl)
  (qo:fx (.Call (.Attribute (.Name x px) "extend" apos) [.Name y py] [] cV) p4 vZ.line X.env=pure xn:=by rfl) (uq:fx e (cz (.Name y pz)) kZ.line X.env=pure xn:=by rfl)
  (hf:∀x,fy iter X.env x=pure x:=by intro _;rfl) :
  PSX X w ML M1 (.For (.Name z pm) iter [.Assign [.Name y pz] e kZ,.Expr (.Call (.Attribute (.Name x px) "extend" apos) [.Name y py] [] cV) vZ] [] pos) (y6 fi (p6 jm) (f7 (i5 j f) (a1S i j))) M:=by
 obtain⟨wi,pi,qi⟩:=hi;obtain⟨te,pe,qe⟩:=hL;have lm:jm<M1.length:=(aD.mp yg).1;have lj:j<M1.length:=(aD.mp vq).1;have Fb:M[i]?=cz (.own (.l t)):=by rw[hM,bS (fm Em),bS (fm iw)];exact wO
 have Ak:M[j]?=cz .dead:=by rw[hM,bS (fm yi),eu lj]
 have BH:M[jm]?=cz .dead:=by rw[hM,eu (by rw[qJ];exact lm)]
 refine .mk ⟨_,a7F hp hc pi (o6 yu E_ Eb Ex) (a0x (a7D yu yr Ec pe uq yl) (a9m (Q1 (a4n eP sP sO a4o (C6 yt qW.1 qW.2.1 qW.2.2) (k6 (C6 yr um.1 um.2.1 um.2.2) n8 hs) fN iT fM hs eB) qo))) hf,λE U Y H P F o S uF k=>?_⟩;obtain⟨ds,h1,g1⟩:=bnd uF;refine qi U Y H P F ds _ S.toE h1 λJ xs Pr H1 e1 hw uv hx=>?_
 have S1:=S.grow e1;have qQ:=hx.length;obtain⟨v0,f0,vh,o0,_⟩:=S1.toE.get vq;have S0:StR X.K M U Y H1 P F:=by
  rw[hM];exact (S1.dead vq).dead (m:=mm) (by rw[bS yi];exact yg)
 refine⟨λn m Y' H'=>m=xs.length-n/\n<=xs.length/\∃U' F' v,StR X.K M U' Y' H' (cut H1 F) F'/\Y'[j]?=cz (cz v)/\Den X.K H' v (U'.getD j .none)/\U7 (p6 jm) (f7 (i5 j f) (a1S i j)) (ds.drop n) U'=cz o,⟨xs.length,by simp,bL _,U,F,v0,⟨S0.all,S0.lst,Same.refl _⟩,vh,o0.den,g1⟩,?_⟩;rintro n m Y' H' ⟨rfl,hn,U',F',v,S',hv,kH,hfl⟩;have q:=uv H' (S'.prot.trans j6);by_cases jN:n<xs.length
 ·refine .inr ⟨hw.go n H' q jN,λY2 H2=>∃U2 F2 v2,StR X.K M U2 Y2 H2 (cut H1 F) F2/\Y2[j]?=cz (cz v2)/\Den X.K H2 v2 (U2.getD j .none)/\U7 (p6 jm) (f7 (i5 j f) (a1S i j)) (ds.drop (n+1)) U2=cz o,λY2 H2 zz=>⟨xs.length-(n+1),by lia,rfl,jN,zz⟩,λvx H2 hy=>?_⟩;obtain⟨rfl,sk⟩:=hw.yld n H' vx H2 q jN hy;have nT:n<ds.length:=by lia
  rw[dw nT]at hfl;obtain⟨U1,vm,g2⟩:=bnd (show (p6 jm U' ds[n]).bind _=cz o from hfl);cases vm
  obtain⟨o1,uG,g3⟩:=bnd g2;obtain⟨oa,ES,ER⟩:=bnd (show (i5 j f (U'.set jm ds[n])).bind _=cz o1 from uG);obtain⟨dy,zV,DG⟩:=bnd (show (f (U'.set jm ds[n])).bind (λd=>cz (Out.nx ((U'.set jm ds[n]).set j d)))=cz oa from ES);cases DG
  have S2:=S'.kill BH ds[n] (cz vx);rw[set_same BH]at S2;have vg:(Y'.set jm (cz vx))[j]?=cz (cz v):=by rw[bS (fm yi)];exact hv
  have hd2:(U'.set jm ds[n]).getD j .none=U'.getD j .none:=by rw[ah,bS (fm yi),ah]
  refine qe _ (Y'.set jm (cz vx)) H2 (cut H1 F) F' dy v _ S2.toE vg (by rw[hd2];exact kH) zV λvy H3 e3 qz=>?_
  obtain⟨fp,o3,n3,f3⟩:=qz;have S3:=S2.set Ak e3 o3 n3 f3;have Al:(M.set j (.own (.l t)))[i]?=cz (.own (.l t)):=by rw[bS (fm iw)];exact Fb
  have Aj:(M.set j (.own (.l t)))[j]?=cz (.own (.l t)):=eu (aD.mp Ak).1;have zZ:∃es fs,((U'.set jm ds[n]).set j dy).getD i .none=.list es/\((U'.set jm ds[n]).set j dy).getD j .none=.list fs/\es.length+fs.length<=1000000/\o1=.nx (((U'.set jm ds[n]).set j dy).set i (.list (es++fs))):=by
   have qC:a1S i j ((U'.set jm ds[n]).set j dy)=cz o1:=ER;unfold a1S at qC;generalize ((U'.set jm ds[n]).set j dy).getD i .none=d1 at qC;generalize ((U'.set jm ds[n]).set j dy).getD j .none=d2 at qC;cases d1 with
   |list es=>
    cases d2 with
    |list fs=>
     have h':(if es.length+fs.length<=1000000 then cz (Out.nx (((U'.set jm ds[n]).set j dy).set i (.list (es++fs)))) else p4)=cz o1:=qC;by_cases cc:es.length+fs.length<=1000000
     ·rw[aE cc]at h';exact⟨es,fs,rfl,rfl,cc,(aF h').symm⟩
     ·rw[aM cc]at h';cases h'
    |_=>cases qC
   |_=>cases qC
  obtain⟨es,fs,EA,xb,oN,rfl⟩:=zZ;obtain⟨a,b,uY,xW,ug,sj,tJ,vG,l1,l2,S4,D4⟩:=S3.extendL iw Al Aj EA xb;have hz:br=16777216:=dB;refine⟨.ref a,ug,.inl ⟨rfl,uY,SqL.of tJ⟩,.ref b,sj,a,b,uY,xW,rfl,rfl,tJ,vG,by lia,?_⟩;rw[List.set_set,set_same Ak]at S4;refine⟨_,_,.ref b,S4,sj,?_,g3⟩;rw[ah,bS iw,<-ah,xb];exact D4
 ·have e:n=xs.length:=by lia
  subst e;rw[qQ,iY]at hfl;have:o=.nx U':=(aF hfl).symm;subst this;exact .inl ⟨hw.stop _ H' q (az _),k Y' H' F' ⟨S'.all,S'.lst,S0.prot.trans S'.prot⟩⟩
end
def a6M(i:Nat)(f:EvE):EvS:=λU=>(f U).bind λd=>match d,U.getD i .none with
 |.list es,.list ds=>if ds.length+es.length<=1000000 then cz (.nx (U.set i (.list (ds++es)))) else p4
 |_,_=>p4
section
variable {X:Cx}{t w:Ty}{ML M:List Md}{e:Expr}{f:EvE}{pos apos cV:fV}{x:bM}{px:fV}
def b6B(i:Nat)(he:PX X M e f (.new (.l t)))(hm:M[i]?=cz (.own (.l t)):=by rfl)(hN:X.N[i]?=cz x:=by rfl)(hv:Vis X.env.scope x:=by first|exact eD rfl|exact mM (eD rfl)|exact mM (mM rfl))(hd:(x==("__debug__":bM))=xn:=by decide)
  (nI:(x==("__classdict__":bM))=xn:=by decide)
  (fN:dZ (.Name x px) "extend" X.env (cI (.Name x px) X.env)=cI (.Name x px) X.env:=by rfl)
  (iT:((cD cV (au [e] X.env)).all (λx=>!x.1)&&(eV cV (dC [] X.env)).all (λx=>x.1.isSome)
   && decide ([e].length+([]:List eL).length+(if ([]:List eL).isEmpty then 0 else 1)<30))=rp:=by rfl)
  (fM:(apos.endLine==cV.line)=rp:=by rfl) (hs:au [e] X.env=(xn,cI e X.env)::au [] X.env:=by rfl) (eB:(cD cV (au [] X.env)).any (·.1)=xn:=by rfl)
  (qo:fx (.Call (.Attribute (.Name x px) "extend" apos) [e] [] cV) p4 pos.line X.env=pure xn:=by rfl) :
  PSX X w ML M (.Expr (.Call (.Attribute (.Name x px) "extend" apos) [e] [] cV) pos) (a6M i f) M:=by
 obtain⟨te,pe,qe⟩:=he.out;refine .mk ⟨_,Q1 (a4n eP sP sO a4o (C6 hN hv hd nI) (k6 pe n8 hs) fN iT fM hs eB) qo,λD U Y H P F o S hg k=>?_⟩;obtain⟨d,h3,g3⟩:=bnd hg;have hl:∃es ds,d=.list es/\U.getD i .none=.list ds/\ds.length+es.length<=1000000/\o=.nx (U.set i (.list (ds++es))):=by
  cases d with
  |list es=>
   cases hr:U.getD i iQ with
   |list ds=>
    rw[hr]at g3;have yx:(if ds.length+es.length<=1000000 then cz (Out.nx (U.set i (.list (ds++es)))) else p4)=cz o:=g3;by_cases c:ds.length+es.length<=1000000
    ·rw[aE c]at yx;exact⟨es,ds,rfl,rfl,c,(aF yx).symm⟩
    ·rw[aM c]at yx;cases yx
   |_=>rw[hr]at g3;cases g3
  |_=>cases g3
 obtain⟨es,ds,rfl,hr,hz,rfl⟩:=hl;obtain⟨v0,f0,e0,o0,Cw⟩:=S.toE.get hm;rw[hr]at o0;simp only[Own]at o0;rcases o0 with⟨_,hi,_⟩|⟨b,xs,kj,fs,rfl,hH,jO,rfl,hL⟩
 ·simp only[imm]at hi;cases hi
 cases jO
 refine⟨.ref b,e0,.inl ⟨rfl,xs,SqL.of hH⟩,qe U Y H P F _ _ S.toE h3 λv1 H1 e1 qz=>?_⟩;obtain⟨fp,o1,nd,fr⟩:=qz;obtain⟨_,_,S1⟩:=S.pend.new e1 o1 nd fr;have FJ:StR X.K (.own (.l t)::M) (.list es::U) (cz v1::Y) H1 P (fp++F):=S1;obtain⟨a,b',uY,xW,ug,sj,tJ,vG,l1,l2,S4,_⟩:=FJ.extendL (i:=i+1) (j:=0) (by lia) (by simpa using hm) rfl (by simpa using hr) rfl;have ea:b=a:=by
  have:(cz (cz (V.ref b)):Option (Option V))=cz (cz (.ref a)):=by rw[<-e0];simpa using ug
  cases this;rfl
 subst ea;cases (show (cz (cz v1):Option (Option V))=cz (cz (.ref b')) from sj)
 have wo:uY=xs:=by rw[e1 _ _ hH]at tJ;cases tJ;rfl
 subst wo;have oN:br=16777216:=dB;refine⟨b,b',uY,xW,rfl,rfl,tJ,vG,by lia,k Y _ (fp++F) ?_⟩;obtain⟨G,q1,q2,q3⟩:=S4.all;have AU:StAll X.K (upd H1 b (.lst (uY++xW))) (fp++F) (.dead::M) (.list es::U.set i (.list (ds++es))) (cz (.ref b')::Y) G:=q1;simp only[StAll]at AU;obtain⟨d,U',o',Y',f',g',z1,z2,rfl,z4,z5⟩:=AU;cases z1
 cases z2
 have Ck:f'=[]:=z4;subst Ck;exact⟨⟨g',z5,by simpa using q2,λa ha=>q3 a (by simpa using ha)⟩,S4.lst,S4.prot⟩
end
end VS
namespace VS
open PySem.Spec L2
open PyProof.Rows (KeyOrd)
section
variable {O:KeyOrd}{key:Nat->O.α}{N:Nat}{sh:ao}{cmp:Nat->Nat->(Bool->ao->Prop)->ao->Prop}
def kyP(key:Nat->O.α)(p:Array Nat)(i:Nat):O.α:=key (p.getD i 0)
def b1l(key:Nat->O.α)(p:Array Nat)(k:Nat):Prop:=∀i j,i<=j->j<k->O.kle (kyP key p i) (kyP key p j)
def AllN(N:Nat)(p:Array Nat):Prop:=p.toList.Perm (aw N)
theorem AllN.size(h:AllN N p):p.size=N:=by
 have:=h.length_eq;simpa using this
end
end VS
namespace PySem
def Heap.RawDict(hp:cM)(d:aC)(rows:Array iS)(ep:Nat):Prop:=∃u,hp.get? d=cz u/\u.ExactDict/\u.data=.dict rows ep
section
variable {prog:bA}{w:bQ}{A:bN}{E:ai->ao->Prop}{sh:ao}{d it:aC}{rows:Array iS}{ep i:Nat}
def Heap.RawDict.at{h h':cM}(x:h.RawDict d rows ep)(e:∀o,h.get? d=cz o->h'.get? d=cz o):h'.RawDict d rows ep:=let⟨u,hu,r⟩:=x;⟨u,e _ hu,r⟩
def Heap.RawDict.typeIs(x:sh.heap.RawDict d rows ep):sh.TypeIs (.ref d) "dict":=let⟨u,hu,r,_⟩:=x;⟨u,hu,r.1⟩
def b3D(h0:(d==fA)=xn)(hm:sh.heap.RawDict d rows ep)
  (q:Q (.ref sh.heap.objs.size) {sh with heap:=sh.heap.push {cls:=.type "dict_keyiterator",data:=.fields #[.ref d,.int 0 0,.int rows.size 0,.int ep 0]}}) :
  aW (a_ prog w) A (CI (.ref d)) Q E sh:=by
 obtain⟨u,hu,hx,xl⟩:=id hm;refine wpAny_pyIter_slot hm.typeIs F.slot_dict_iter (et F.slot_dict_iter hm.typeIs F.entry_dict_iter ?_ (F.args_dict_iter_1 _));unfold Builtin.«dict.__iter__»;refine ae ?_;unfold Builtin.Dict.dictSlotNone;refine ae (nz hm.typeIs ?_);show aW _ _ (pure (bt d)) _ _ sh;refine aA ?_;show aW _ _ (Hb d >>= _) _ _ sh;unfold Hb;rw[aM (by rw[h0];exact cu)];refine ae (aA (ae (gX hu xl (ae (tX hu xl ?_)))));refine ae (jd (aA ⟨_,rfl,"dict_keyiterator",_,⟨_,bz _ rfl,rfl⟩,fB.lookup,?_⟩));simpa[jK]using q
def b3E(hI:sh.heap.IsKeyIter it d i rows.size ep)(hm:sh.heap.RawDict d rows ep)(hi:i<rows.size)
  (q:∀h',h'.IsKeyIter it d (i+1) rows.size ep->jq it sh.heap h'->Q (cz rows[i].key) {sh with heap:=h'}):aW (a_ prog w) A (qf (.ref it)) Q E sh:=by
 obtain⟨x,hx,Bi,uj⟩:=id hI;obtain⟨u,hu,_,wz⟩:=id hm;unfold qf;refine ae (pJ (gk (name:=cJ "__next__") hI.typeIs fB (et fB hI.typeIs tU ?_ (sU _))));refine ae (aA (ae (ae ?_)))
 first|refine ae (gC hI.typeIs (aA ?_))|refine ae (ir hI.typeIs (aA ?_))
 refine ae (wpAny_fieldsOf hx uj ?_);simp only[show uX "dict_keyiterator"=xn from by decide,be,cH];show aW _ _ (if (bt d==bD)=rp then _ else _) _ _ sh;rw[aM (show ¬ (bt d==bD)=rp from cu)];refine ae (aA (ae (gX hu wz ?_)));rw[aM (by simp)];refine ae (aA (ae (tX hu wz ?_)));rw[aM (by simp)];refine aA ?_;simp only[show ¬ (i:Int)<0 from by lia,cH,bH,bF hi];refine ae ?_
 first|refine ae (gC hI.typeIs (aA ?_))|refine ae (ir hI.typeIs (aA ?_))
 refine ae (FZ hI.typeIs ?_);show aW _ _ (setField (.ref it) 1 (jK ((i:Int)+1)) >>= _) _ _ sh;refine ae (wpAny_setField hx uj (by simp) ?_);have BL:(sh.heap.update it (gc.mapFields (·.setIfInBounds 1 (jK ((i:Int)+1))))).IsKeyIter it d (i+1) rows.size ep:=
  ⟨_,eO _ hx (gc.isFreed_of_fields (gc.data_mapFields uj _)),(gc.cls_mapFields ..).trans Bi,by rw[gc.data_mapFields uj];simp[jK]⟩
 refine ae (cK ?_);refine ae (FZ (s:={sh with heap:=sh.heap.update it (gc.mapFields (·.setIfInBounds 1 (jK ((i:Int)+1))))}) BL.typeIs ?_);show aW _ _ (pure rows[i].key) _ _ _;exact aA (aA ⟨_,rfl,aA (q _ BL (dX ..))⟩)
def b3F(hh:A.handled=p4)(hI:sh.heap.IsKeyIter it d i rows.size ep)(hm:sh.heap.RawDict d rows ep)(hi:rows.size<=i)
  (q:∀h',cM.ExtBut it sh.heap h'->Q p4 {sh with heap:=h'}):aW (a_ prog w) A (qf (.ref it)) Q E sh:=by
 obtain⟨x,hx,Bi,uj⟩:=id hI;obtain⟨u,hu,_,wz⟩:=id hm;unfold qf;refine ae (pJ (gk (name:=cJ "__next__") hI.typeIs fB (et fB hI.typeIs tU ?_ (sU _))));refine ae (aA (ae (ae ?_)))
 first|refine ae (gC hI.typeIs (aA ?_))|refine ae (ir hI.typeIs (aA ?_))
 refine ae (wpAny_fieldsOf hx uj ?_);simp only[show uX "dict_keyiterator"=xn from by decide,be,cH];show aW _ _ (if (bt d==bD)=rp then _ else _) _ _ sh;rw[aM (show ¬ (bt d==bD)=rp from cu)];refine ae (aA (ae (gX hu wz ?_)));rw[aM (by simp)];refine ae (aA (ae (tX hu wz ?_)));rw[aM (by simp)];refine aA ?_;simp only[show ¬ (i:Int)<0 from by lia,cH,bH,gi hi];refine ae ?_
 first|refine ae (gC hI.typeIs (aA ?_))|refine ae (ir hI.typeIs (aA ?_))
 show aW _ _ (setField (.ref it) 0 .none >>= _) _ _ sh;refine ae (wpAny_setField hx uj (by simp) ?_);show aW _ _ (newExc (.type "StopIteration") [] >>= _) _ _ _;refine ae ?_;simp only[newExc,newTuple];refine ae (jd ?_ (by size_fits));refine ae (m:=firstArgMember _ _) (wpAny_of_eq (a:=bD) (by first|rfl|(simp only[firstArgMember];rfl)) ?_);refine jd ?_ (by size_fits);simp only[raiseNew];refine ae (wpAny_handled ?_);rw[show A.in1.handled=p4 from hh];refine ae (aA (wpAny_throw ?_));refine ae (wpAny_isInstance (b:=rp) (T:="StopIteration") ⟨_,bz _ rfl,rfl⟩ isSubtype_stop ?_);exact aA (q _ (((dX ..).extBut.push _).push _))
def b1m(hh:A.handled=p4)(i_:d≠it):Walks prog w A it [it,d] [it] rows.size (λi v=>∃e,rows[i]?=cz e/\v=e.key) (λi h=>h.IsKeyIter it d i rows.size ep/\h.RawDict d rows ep) where
 sub:=λb hb=>aN.mpr (.inl (aq.mp hb))
 frame:=λ_ _ _ st hk=>⟨st.1.at λo e=>hk it aK o e,st.2.at λo e=>hk d (ar _ aK) o e⟩
 item:=λi s Q E hi st q=>b3E st.1 st.2 hi λh' hI hs=>q _ h' s.toks ⟨rows[i],bF hi,rfl⟩ ⟨hI,st.2.at λo e=>hs.extBut d o i_ e⟩ λb o hb e=>hs.extBut b o (λz=>hb (by rw[z];exact aq.mpr rfl)) e
 done:=λs Q E st q=>b3F hh st.1 st.2 (az _) λh' he=>q h' s.toks λb o hb e=>he b o (λz=>hb (by rw[z];exact aq.mpr rfl)) e
 self:=λ_ _ _ _ st q=>wpAny_pyIter_keyiter st.1 q
def b6C(h0:(d==fA)=xn):W.KdlSrc prog w "dict" d d rows.size (λi v=>∃e,rows[i]?=cz e/\v=e.key) (λh=>h.RawDict d rows ep) where
 type:=λ_ hm=>hm.typeIs
 there:=λh hm=>let⟨_,hu,_⟩:=hm;⟨aY hu,aY hu⟩
 keep:=λ_ _ hm hk=>hm.at λo e=>hk d (.inl rfl) o e
 notList:=by decide
 notTuple:=by decide
 hint:=λ_ _ s _ hm q=>W.kdl_hint_dict (Heap.RawDict.typeIs (sh:=s) hm) q
 iter:=λ_ _ hh hm=>⟨_,_,(λ_ _ q=>b3D h0 hm q),b1m hh (let⟨_,hu,_⟩:=hm;bO (aY hu)),⟨⟨_,bz _ rfl,rfl,rfl⟩,hm.at λ_ e=>aO _ e⟩⟩
end
end PySem
namespace VS
open PyProof.Rows
def a5G:Bool->bR->Array bR->Nat->Nat->Nat->StateT dq AE (Option Nat):=sortPriv% PySem.Builtin.gallop
structure CmpS (prog:bA) (w:bQ) (A:bN) (s:ao) (κ:fg) (O:KeyOrd) (ky:bR->O.α) (S:bR->Prop):Prop where
 lt:∀x y:bR,S x->S y->∀C:Bool->ao->Prop,C (O.blt (ky x) (ky y)) s->aW (a_ prog w) A (keyLt' κ x.1 y.1) C (λ_ _=>False) s
section
variable {prog:bA}{w:bQ}{A:bN}{E:ai->ao->Prop}{s:ao}{κ:fg}{O:KeyOrd}{ky:bR->O.α}{S:bR->Prop}{st:dq}
def a3g(H:CmpS prog w A s κ O ky S)(hk:kindOf st=κ)(hx:S x)(hy:S y)(h:Q (cz (O.blt (ky x) (ky y))) st):tW (a_ prog w) A E s (lt' x y) Q st:=by
 rw[lt'_eq];refine aU (ny ?_);rw[hk];refine aU (wpS_lift (pJ ?_));refine dW (H.lt x y hx hy (λb s'=>b=O.blt (ky x) (ky y)/\s'=s) ⟨rfl,rfl⟩) (λb s' hb=>?_) λ_ _ e=>e.elim
 obtain⟨rfl,rfl⟩:=hb;exact⟨rfl,bg h⟩
def l0{arr:Array bR}(hi:i<arr.size)(h:Q arr[i] st):tW (a_ prog w) A E s (elem' arr i) Q st:=by
 rw[elem'_eq,bF hi];exact bg h
def b3G(ky:bR->O.α)(S:bR->Prop)(arr:Array bR)(base n:Nat)(ka:Nat->O.α):Prop:=∀i,i<n->∃h:base+i<arr.size,ky arr[base+i]=ka i/\S arr[base+i]
def prG(left:Bool)(k:O.α)(ka:Nat->O.α)(i:Nat):Bool:=if left then O.blt (ka i) k else !O.blt k (ka i)
def K9(H:CmpS prog w A s κ O ky S)(hk:kindOf st=κ)(P:b3G ky S arr base n ka)(hS:S key)(hi:i<n)(h:Q (cz (prG left (ky key) ka i)) st) :
  tW (a_ prog w) A E s (do let x <-elem' arr (base+i);if left then lt' x key else return (<-lt' key x).map (!·)) Q st:=by
 obtain⟨hb,e,hs⟩:=P i hi;refine aU (l0 hb ?_);unfold prG at h;cases left with
 |true=>exact a3g H hk hs hS (by rw[e];exact h)
 |false=>exact aU (a3g H hk hS hs (bg (by rw[e];exact h)))
def a3h(H:CmpS prog w A s κ O ky S)(hk:kindOf st=κ)(P:b3G ky S arr base n ka)(hS:S key)(hh:hint<n)(mono:∀i j,i<=j->j<n->prG left (ky key) ka j=rp->prG left (ky key) ka i=rp) 
  (q:∀k,k<=n->(∀i,i<k->prG left (ky key) ka i=rp)->(∀i,k<=i->i<n->prG left (ky key) ka i=xn)->Q (cz k) st):tW (a_ prog w) A E s (a5G left key arr base n hint) Q st:=by
 have uP:∀i j,i<=j->j<n->prG left (ky key) ka i=xn->prG left (ky key) ka j=xn:=λi j iw hj hi=>by
  cases c:prG left (ky key) ka j with
  |false=>rfl
  |true=>rw[mono i j iw hj c]at hi;cases hi
 refine aU (K9 H hk P hS hh ?_);have xJ:∀f:Nat->(Option (Option Nat)×Nat×Nat)->StateT dq AE (ForInStep (Option (Option Nat)×Nat×Nat)),
   (∀x l r (Q':ForInStep (Option (Option Nat)×Nat×Nat)->dq->Prop),l≥r->Q' (.done (p4,l,r)) st->tW (a_ prog w) A E s (f x (p4,l,r)) Q' st)->
   (∀x l r (Q':ForInStep (Option (Option Nat)×Nat×Nat)->dq->Prop),¬ l≥r->l+(r-l) / 2<n->(prG left (ky key) ka (l+(r-l) / 2)=rp->Q' (.yield (p4,l+(r-l) / 2+1,r)) st)->(prG left (ky key) ka (l+(r-l) / 2)=xn->Q' (.yield (p4,l,l+(r-l) / 2)) st)->tW (a_ prog w) A E s (f x (p4,l,r)) Q' st)->
   ∀lo hi,lo<=hi->hi<=n->(∀i,i<lo->prG left (ky key) ka i=rp)->(∀i,hi<=i->i<n->prG left (ky key) ka i=xn)->
   tW (a_ prog w) A E s (forIn [0:n] ((p4:Option (Option Nat)),lo,hi) f) (λc cQ=>cQ=st/\∃r,c=(p4,r,r)/\r<=n/\(∀i,i<r->prG left (ky key) ka i=rp)/\(∀i,r<=i->i<n->prG left (ky key) ka i=xn)) st:=by
  intro f f1 f2 lo hi h1 h2 h3 h4;refine dH (I:=λx c cQ=>cQ=st/\∃l r,c=(p4,l,r)/\l<=r/\r<=n/\r-l<=n-x/\(∀i,i<l->prG left (ky key) ka i=rp)/\(∀i,r<=i->i<n->prG left (ky key) ka i=xn)) ?step ?fin ⟨rfl,lo,hi,rfl,h1,h2,by lia,h3,h4⟩
  case fin=>
   rintro c cQ ⟨rfl,l,r,rfl,g1,g2,g3,g4,g5⟩;have:l=r:=by lia
   subst this;exact⟨rfl,l,rfl,g2,g4,g5⟩
  case step=>
   rintro x c cQ _ hx ⟨rfl,l,r,rfl,g1,g2,g3,g4,g5⟩;by_cases c:l≥r
   ·have:l=r:=by lia
    subst this;exact f1 x l l _ c ⟨rfl,l,rfl,g2,g4,g5⟩
   ·refine f2 x l r _ c (by lia) (λd=>?_) λd=>?_
    ·exact⟨rfl,_,_,rfl,by lia,g2,by lia,λi hi=>mono i _ (show i<=l+(r-l) / 2 by lia) (by lia) d,g5⟩
    ·exact⟨rfl,_,_,rfl,by lia,by lia,by lia,g4,λi hi hn=>uP _ i hi hn d⟩
 dsimp only
 cases d:prG left (ky key) ka hint with
 |true=>
  rw[aE rfl];refine aU (fT (dH (I:=λx c cQ=>cQ=st/\∃l o,c=(p4,l,o)/\l<o/\x+1<=o/\hint+l<n/\prG left (ky key) ka (hint+l)=rp)
   (Q:=λc cQ=>cQ=st/\∃l o,c=(p4,l,o)/\l<o/\hint+l<n/\prG left (ky key) ka (hint+l)=rp/\(hint+o<n->prG left (ky key) ka (hint+o)=xn)) ?step ?fin ⟨rfl,0,1,rfl,by lia,by lia,by lia,d⟩) ?post)
  case fin=>
   rintro c cQ ⟨rfl,l,o,rfl,g1,g2,g3,g4⟩;exact⟨rfl,l,o,rfl,g1,g3,g4,λz=>by lia⟩
  case post=>
   rintro c cQ ⟨rfl,l,o,rfl,g1,g2,g3,g4⟩
   dsimp only
   refine aU (fT (xJ _ (λx l r Q' c h=>?_) (λx l r Q' c hm ht hf=>?_) (hint+l+1) (hint+min o (n-hint)) (by lia) (by lia) (λi hi=>mono i (hint+l) (by lia) g2 g3) (λi hi hn=>(bK (hint+o) n).elim (λz=>uP (hint+o) i (by lia) hn (g4 z)) λz=>by lia)) λc cQ ⟨e,r,e2,r1,r2,r3⟩=>?_)
   ·dsimp only;rw[aE c];exact bg h
   ·dsimp only
    rw[aM c];refine aU (K9 H hk P hS hm ?_)
    dsimp only
    cases d':prG left (ky key) ka (l+(r-l) / 2) with
    |true=>rw[aE rfl];exact bg (ht d')
    |false=>simp only[be,cH];exact bg (hf d')
   ·subst e e2;exact bg (q r r1 r2 r3)
  case step=>
   rintro x c cQ _ hx ⟨rfl,l,o,rfl,g1,g2,g3,g4⟩
   dsimp only
   by_cases c:o≥n-hint
   ·rw[aE c];exact bg ⟨rfl,l,o,rfl,g1,g3,g4,λz=>by lia⟩
   ·rw[aM c];refine aU (K9 H hk P hS (show hint+o<n by lia) ?_)
    dsimp only
    cases e:prG left (ky key) ka (hint+o) with
    |true=>
     simp only[er,be,cH];exact bg ⟨rfl,o,2*o+1,rfl,by lia,by lia,by lia,e⟩
    |false=>
     simp only[rV,qO];exact bg ⟨rfl,l,o,rfl,g1,g3,g4,λ_=>e⟩
 |false=>
  simp only[be,cH];refine aU (fT (dH (I:=λx c cQ=>cQ=st/\∃l o,c=(p4,l,o)/\l<o/\x+1<=o/\l<=hint/\prG left (ky key) ka (hint-l)=xn)
   (Q:=λc cQ=>cQ=st/\∃l o,c=(p4,l,o)/\l<o/\l<=hint/\prG left (ky key) ka (hint-l)=xn/\(o<=hint->prG left (ky key) ka (hint-o)=rp)) ?step ?fin ⟨rfl,0,1,rfl,by lia,by lia,by lia,d⟩) ?post)
  case fin=>
   rintro c cQ ⟨rfl,l,o,rfl,g1,g2,g3,g4⟩;exact⟨rfl,l,o,rfl,g1,g3,g4,λz=>by lia⟩
  case post=>
   rintro c cQ ⟨rfl,l,o,rfl,g1,g2,g3,g4⟩
   dsimp only
   refine aU (fT (xJ _ (λx l r Q' c h=>?_) (λx l r Q' c hm ht hf=>?_) (hint+1-min o (hint+1)) (hint-l) (by lia) (by lia) (λi hi=>(bK hint o).elim (λz=>by lia) λz=>mono i (hint-o) (by lia) (by lia) (g4 z)) (λi hi hn=>uP (hint-l) i (by lia) hn g3)) λc cQ ⟨e,r,e2,r1,r2,r3⟩=>?_)
   ·dsimp only;rw[aE c];exact bg h
   ·dsimp only
    rw[aM c];refine aU (K9 H hk P hS hm ?_)
    dsimp only
    cases d':prG left (ky key) ka (l+(r-l) / 2) with
    |true=>rw[aE rfl];exact bg (ht d')
    |false=>simp only[be,cH];exact bg (hf d')
   ·subst e e2;exact bg (q r r1 r2 r3)
  case step=>
   rintro x c cQ _ hx ⟨rfl,l,o,rfl,g1,g2,g3,g4⟩
   dsimp only
   by_cases c:o≥hint+1
   ·rw[aE c];exact bg ⟨rfl,l,o,rfl,g1,g3,g4,λz=>by lia⟩
   ·rw[aM c];refine aU (K9 H hk P hS (show hint-o<n by lia) ?_)
    dsimp only
    cases e:prG left (ky key) ka (hint-o) with
    |true=>
     rw[aE rfl];exact bg ⟨rfl,l,o,rfl,g1,g3,g4,λ_=>e⟩
    |false=>
     simp only[be,cH];exact bg ⟨rfl,o,2*o+1,rfl,by lia,by lia,by lia,e⟩
end
section
variable {O:KeyOrd}{ky:bR->O.α}
def UpA(ky:bR->O.α)(a:Array bR):Prop:=∀i j (hj:j<a.size) (h:i<=j),O.kle (ky (a[i]'(by lia))) (ky a[j])
structure MInv (ky:bR->O.α) (a b out:Array bR) (ia ib:Nat):Prop where
 la:ia<=a.size
 lb:ib<=b.size
 pm:out.toList.Perm (a.toList.take ia++b.toList.take ib)
 up:out.toList.Pairwise λx y=>O.kle (ky x) (ky y)
 ra:∀x∈out.toList,∀i (h:i<a.size),ia<=i->O.kle (ky x) (ky a[i])
 rb:∀x∈out.toList,∀i (h:i<b.size),ib<=i->O.kle (ky x) (ky b[i])
def take_snoc{α:Type}{l:List α}(h:i<l.length):l.take (i+1)=l.take i++[l[i]]:=(List.take_append_getElem h).symm
def MInv.stepA(M:MInv ky a b out ia ib)(ua:UpA ky a)(h:ia<a.size)(hb:∀j (hj:j<b.size),ib<=j->O.kle (ky a[ia]) (ky b[j])):MInv ky a b (out.push a[ia]) (ia+1) ib:=by
 refine⟨h,M.lb,?_,?_,λx hx i hi hh=>?_,λx hx j hj hh=>?_⟩
 ·rw[cw,take_snoc (by simpa using h),aH];refine (M.pm.append_right _).trans ?_;rw[aH];refine mj _ ?_;rw[bY];exact List.perm_append_comm
 ·rw[cw,du];refine⟨M.up,dI _ _,λx hx y hy=>?_⟩;rw[aq.mp hy];exact M.ra x hx ia h (az _)
 ·rw[cw]at hx;rcases ay.mp hx with z|z
  ·exact M.ra x z i hi (by lia)
  ·rw[aq.mp z];exact ua ia i hi (by lia)
 ·rw[cw]at hx;rcases ay.mp hx with z|z
  ·exact M.rb x z j hj hh
  ·rw[aq.mp z];exact hb j hj hh
def MInv.stepB(M:MInv ky a b out ia ib)(ub:UpA ky b)(h:ib<b.size)(ha:∀i (hi:i<a.size),ia<=i->O.kle (ky b[ib]) (ky a[i])):MInv ky a b (out.push b[ib]) ia (ib+1):=by
 refine⟨M.la,h,?_,?_,λx hx i hi hh=>?_,λx hx j hj hh=>?_⟩
 ·rw[cw,take_snoc (l:=b.toList) (by simpa using h),<-aH,bY];exact M.pm.append_right _
 ·rw[cw,du];refine⟨M.up,dI _ _,λx hx y hy=>?_⟩;rw[aq.mp hy];exact M.rb x hx ib h (az _)
 ·rw[cw]at hx;rcases ay.mp hx with z|z
  ·exact M.ra x z i hi hh
  ·rw[aq.mp z];exact ha i hi hh
 ·rw[cw]at hx;rcases ay.mp hx with z|z
  ·exact M.rb x z j hj (by lia)
  ·rw[aq.mp z];exact ub ib j hj (by lia)
def a0Q{a out:Array bR}(h:i+k<a.size):(out++a.extract i (i+k)).push (a[i+k]'h)=out++a.extract i (i+(k+1)):=by
 rw[pI,ki]
 congr 1;apply il;rw[ng,gP,gP];simp only[kz];rw[show i+k-i=k by lia,show i+(k+1)-i=k+1 by lia,take_snoc (by rw[gU,aJ];lia),oJ,bY]
theorem MInv.manyA(ua:UpA ky a):∀(k:Nat) {out:Array bR},MInv ky a b out ia ib->ia+k<=a.size->(∀i (hi:i<a.size),ia<=i->i<ia+k->∀j (hj:j<b.size),ib<=j->O.kle (ky a[i]) (ky b[j]))->MInv ky a b (out++a.extract ia (ia+k)) (ia+k) ib
 |0,out,M,_,_=>by
  have e:a.extract ia (ia+0)=#[]:=by apply il;simp
  rw[e,ip];exact M
 |k+1,out,M,h,hb=>by
  have ih:=MInv.manyA ua k M (by lia) λi hi h1 h2=>hb i hi h1 (by lia)
  have:=ih.stepA ua (show ia+k<a.size by lia) λj hj h1=>hb (ia+k) (by lia) (by lia) (by lia) j hj h1
  rw[a0Q (by lia)]at this;exact this
theorem MInv.manyB(ub:UpA ky b):∀(k:Nat) {out:Array bR},MInv ky a b out ia ib->ib+k<=b.size->(∀j (hj:j<b.size),ib<=j->j<ib+k->∀i (hi:i<a.size),ia<=i->O.kle (ky b[j]) (ky a[i]))->MInv ky a b (out++b.extract ib (ib+k)) ia (ib+k)
 |0,out,M,_,_=>by
  have e:b.extract ib (ib+0)=#[]:=by apply il;simp
  rw[e,ip];exact M
 |k+1,out,M,h,hb=>by
  have ih:=MInv.manyB ub k M (by lia) λi hi h1 h2=>hb i hi h1 (by lia)
  have:=ih.stepB ub (show ib+k<b.size by lia) λj hj h1=>hb (ib+k) (by lia) (by lia) (by lia) j hj h1
  rw[a0Q (by lia)]at this;exact this
def P0(ky:bR->O.α)(a b out:Array bR):Prop:=out.toList.Perm (a.toList++b.toList)/\out.toList.Pairwise λx y=>O.kle (ky x) (ky y)
def MInv.all(M:MInv ky a b out a.size b.size):P0 ky a b out:=by
 refine⟨?_,M.up⟩;have:=M.pm
 rwa[uT (by simp),uT (by simp)]at this
def MInv.doneB(M:MInv ky a b out ia b.size)(ua:UpA ky a):P0 ky a b (out++a.extract ia a.size++b.extract b.size b.size):=by
 have:=MInv.manyA ua (a.size-ia) M (by have:=M.la;lia) λi hi _ _ j hj h=>by lia
 rw[show ia+(a.size-ia)=a.size by have:=M.la;lia]at this;have e:b.extract b.size b.size=#[]:=by simp
 rw[e,ip];exact this.all
def MInv.doneA(M:MInv ky a b out a.size ib)(ub:UpA ky b):P0 ky a b (out++a.extract a.size a.size++b.extract ib b.size):=by
 have:=MInv.manyB ub (b.size-ib) M (by have:=M.lb;lia) λi hi _ _ j hj h=>by lia
 rw[show ib+(b.size-ib)=b.size by have:=M.lb;lia]at this;have e:a.extract a.size a.size=#[]:=by simp
 rw[e,ip];exact this.all
def MInv.last(M:MInv ky a b out ia ib)(ua:UpA ky a)(ub:UpA ky b)(h:ia+1=a.size)(hl:∀j (hj:j<b.size),O.kle (ky b[j]) (ky (a[ia]'(by lia)))):P0 ky a b (out++b.extract ib b.size++a.extract ia a.size):=by
 have M1:=MInv.manyB ub (b.size-ib) M (by have:=M.lb;lia) λj hj _ _ i hi h2=>by
  have:i=ia:=by lia
  subst this;exact hl j hj
 rw[show ib+(b.size-ib)=b.size by have:=M.lb;lia]at M1;have M2:=MInv.manyA ua 1 M1 (by lia) λi hi _ _ j hj h2=>by lia
 rw[h]at M2;exact M2.all
end
def b3H:Array bR->Array bR->StateT dq AE (Array bR):=sortPriv% PySem.Builtin.mergeLo
def a3Y:Nat->StateT dq AE Unit:=sortPriv% PySem.Builtin.setMinGallop
section
variable {prog:bA}{w:bQ}{A:bN}{E:ai->ao->Prop}{s:ao}{κ:fg}{O:KeyOrd}{ky:bR->O.α}{S:bR->Prop}{st:dq}
def SameG(st cQ:dq):Prop:=kindOf cQ=kindOf st/\ba cQ=ba st/\cE cQ=cE st/\fU cQ=fU st
def SameG.refl(st:dq):SameG st st:=⟨rfl,rfl,rfl,rfl⟩
theorem SameG.trans(x:SameG a b)(y:SameG b c):SameG a c:=⟨y.1.trans x.1,y.2.1.trans x.2.1,y.2.2.1.trans x.2.2.1,y.2.2.2.trans x.2.2.2⟩
def a0R(h:∀cQ,SameG st cQ->Q () cQ):tW (a_ prog w) A E s (a3Y g) Q st:=by
 exact mP (h _ ⟨rfl,rfl,rfl,rfl⟩)
def P1(h:Q () st):tW (a_ prog w) A E s (rule x) Q st:=wpS_lift (kX ⟨rfl,h⟩)
def j7{β:Type}{c:Prop}{dc:Decidable c}{x y:StateT dq AE β}{Q:β->dq->Prop}(h:c->tW (a_ prog w) A E s x Q st)(g:¬ c->tW (a_ prog w) A E s y Q st):tW (a_ prog w) A E s (ite c x y) Q st:=by
 by_cases d:c
 ·rw[aE d];exact h d
 ·rw[aM d];exact g d
def w8{i j:Nat}(h:¬ (i==j)=rp):i≠j:=λe=>h (by rw[e];exact pB j)
def P2{γ δ:Sort _}{β:Type}{R:γ->δ->Prop}{F:γ->δ->StateT dq AE β}{x:StateT dq AE β}{Q:β->dq->Prop}(tl:∀g d,R g d->tW (a_ prog w) A E s (F g d) Q st)(mn:(∀g d,R g d->tW (a_ prog w) A E s (F g d) Q st)->tW (a_ prog w) A E s x Q st):tW (a_ prog w) A E s x Q st:=mn tl
def a5H:(!O.blt k x)=rp↔O.kle x k:=by unfold KeyOrd.kle;cases O.blt k x<;>simp
def UpR(ky:bR->O.α)(arr:Array bR)(base n:Nat):Prop:=∀i j (hj:j<arr.size) (h:i<=j),base<=i->j<base+n->O.kle (ky (arr[i]'(by lia))) (ky arr[j])
def UpA.part(u:UpA ky arr)(base n:Nat):UpR ky arr base n:=λi j hj h _ _=>u i j hj h
def kyD(ky:bR->O.α)(arr:Array bR)(base:Nat)(d:O.α)(i:Nat):O.α:=(arr[base+i]?.map ky).getD d
def a0m{arr:Array bR}(h:base+i<arr.size):kyD ky arr base d i=ky arr[base+i]:=by unfold kyD;rw[bF h];rfl
def part_of{arr:Array bR}(hn:base+n<=arr.size)(qT:∀i (h:i<arr.size),base<=i->i<base+n->S arr[i])(d:O.α):b3G ky S arr base n (kyD ky arr base d):=λi hi=>⟨by lia,(a0m (by lia)).symm,qT _ _ (by lia) (by lia)⟩
def a3i(H:CmpS prog w A s κ O ky S)(hk:kindOf st=κ)(u:UpR ky arr base n)(qT:∀i (h:i<arr.size),base<=i->i<base+n->S arr[i])(hS:S key)(hn:base+n<=arr.size)(hh:hint<n) 
  (q:∀k,k<=n->(∀i (h:i<arr.size),base<=i->i<base+k->O.kle (ky arr[i]) (ky key))->(∀i (h:i<arr.size),base+k<=i->i<base+n->O.klt (ky key) (ky arr[i]))->Q (cz k) st):tW (a_ prog w) A E s (a5G xn key arr base n hint) Q st:=by
 have at_:∀i (h:i<arr.size),base<=i->kyD ky arr base (ky key) (i-base)=ky arr[i]:=λi h hb=>by
  have e:base+(i-base)=i:=by lia
  rw[a0m (by lia)];simp only[e]
 refine a3h H hk (part_of hn qT (ky key)) hS hh (λi j iw hj h=>?_) λk k1 k2 k3=>q k k1 (λi h hb hi=>?_) λi h hb hi=>?_
 ·have h':=a5H.mp h;refine a5H.mpr (dg ?_ h');rw[a0m (show base+i<arr.size by lia),a0m (show base+j<arr.size by lia)];exact u (base+i) (base+j) (by lia) (by lia) (by lia) (by lia)
 ·have:=a5H.mp (k2 (i-base) (by lia))
  rwa[at_ i h hb]at this
 ·have:=k3 (i-base) (by lia) (by lia);have h2:(!O.blt (ky key) (kyD ky arr base (ky key) (i-base)))=xn:=this;rw[at_ i h (by lia)]at h2;show O.blt _ _=rp;simpa using h2
def a3j(H:CmpS prog w A s κ O ky S)(hk:kindOf st=κ)(u:UpR ky arr base n)(qT:∀i (h:i<arr.size),base<=i->i<base+n->S arr[i])(hS:S key)(hn:base+n<=arr.size)(hh:hint<n) 
  (q:∀k,k<=n->(∀i (h:i<arr.size),base<=i->i<base+k->O.klt (ky arr[i]) (ky key))->(∀i (h:i<arr.size),base+k<=i->i<base+n->O.kle (ky key) (ky arr[i]))->Q (cz k) st):tW (a_ prog w) A E s (a5G rp key arr base n hint) Q st:=by
 have at_:∀i (h:i<arr.size),base<=i->kyD ky arr base (ky key) (i-base)=ky arr[i]:=λi h hb=>by
  have e:base+(i-base)=i:=by lia
  rw[a0m (by lia)];simp only[e]
 refine a3h H hk (part_of hn qT (ky key)) hS hh (λi j iw hj h=>?_) λk k1 k2 k3=>q k k1 (λi h hb hi=>?_) λi h hb hi=>?_
 ·have h':O.klt _ _:=h;refine (KeyOrd.klt_of_kle_of_klt ?_ h':O.klt _ _);rw[a0m (show base+i<arr.size by lia),a0m (show base+j<arr.size by lia)];exact u (base+i) (base+j) (by lia) (by lia) (by lia) (by lia)
 ·have:O.blt _ _=rp:=k2 (i-base) (by lia);rw[at_ i h hb]at this;exact this
 ·have:O.blt _ _=xn:=k3 (i-base) (by lia) (by lia);rw[at_ i h (by lia)]at this;exact this
def a6N(H:CmpS prog w A s κ O ky S)(hk:kindOf st=κ)(ua:UpA ky a)(ub:UpA ky b)(sa:∀i (h:i<a.size),S a[i])(sb:∀i (h:i<b.size),S b[i])(a0:0<a.size)(b0:0<b.size)(hf:O.klt (ky b[0]) (ky a[0]))(hl:∀j (hj:j<b.size),O.klt (ky b[j]) (ky (a[a.size-1]'(by lia))))
  (q:∀out cQ,SameG st cQ->P0 ky a b out->Q out cQ):tW (a_ prog w) A E s (b3H a b) Q st:=by
 have M0:MInv ky a b #[b[0]] 0 1:=by
  have M:MInv ky a b #[] 0 0:=⟨bL _,bL _,by simp,by simp,λx hx=>by simp at hx,λx hx=>by simp at hx⟩;have:=M.stepB ub b0 λi hi _=>cS (fC hf (ua 0 i hi (by lia)))
  simpa using this
 have nF:∀{out:Array bR} {ia ib:Nat},MInv ky a b out ia ib->ia+1=a.size->P0 ky a b (out++b.extract ib b.size++a.extract ia a.size):=λ{out ia ib} M h=>M.last ua ub h λj hj=>by
  have:=hl j hj;have e:a.size-1=ia:=by lia
  simp only[e]at this;exact cS this
 refine aU (P1 ?_);refine aU (l0 b0 ?_);refine j7 (λc1=>?_) λc1=>?_
 ·have e:1=b.size:=eq_of_beq c1;refine bg (q _ _ (SameG.refl _) ?_);have:=M0;rw[e]at this ⊢;exact this.doneB ua
 have FG:1≠b.size:=w8 c1;refine j7 (λc2=>bg (q _ _ (SameG.refl _) (nF M0 (eq_of_beq c2)))) λc2=>?_
 have FF:0+1≠a.size:=w8 c2;refine aU (ny ?_);refine aU (fT (dH (I:=λx c cQ=>SameG st cQ/\∃out ia ib mg,c=(p4,out,ia,ib,mg)/\MInv ky a b out ia ib/\ia+1<a.size/\ib<b.size/\x+1<=ia+ib)
  (Q:=λc cQ=>SameG st cQ/\∃r z,c=(cz r,z)/\P0 ky a b r) ?ostep ?ofin ⟨SameG.refl _,#[b[0]],0,1,_,rfl,M0,by lia,by lia,by lia⟩) ?opost)
 case opost=>
  rintro c cQ ⟨hs,r,z,rfl,hm⟩;exact bg (q r cQ hs hm)
 case ofin=>
  rintro c cQ ⟨hs,out,ia,ib,mg,rfl,M,h1,h2,h3⟩;lia
 case ostep=>
  rintro x c cQ _ hx ⟨hs,out,ia,ib,mg,rfl,M,h1,h2,h3⟩;refine aU (fT (dH (I:=λx' c fD=>SameG st fD/\∃jw mo mE ac bc,c=(p4,jw,mo,mE,ac,bc)/\MInv ky a b jw mo mE/\mo+1<a.size/\mE<b.size/\mo+mE=ia+ib+x')
   (Q:=λc fD=>SameG st fD/\((∃r z,c=(cz r,z)/\P0 ky a b r)\/∃jw mo mE ac bc,c=(p4,jw,mo,mE,ac,bc)/\MInv ky a b jw mo mE/\mo+1<a.size/\mE<b.size/\ia+ib+1<=mo+mE)) ?istep ?ifin ⟨hs,out,ia,ib,_,_,rfl,M,h1,h2,by lia⟩) ?ipost)
  case ifin=>
   rintro c fD ⟨ju,jw,mo,mE,ac,bc,rfl,M',g1,g2,g3⟩;exact⟨ju,.inr ⟨_,_,_,_,_,rfl,M',g1,g2,by lia⟩⟩
  case istep=>
   rintro x' c fD _ wq ⟨ju,jw,mo,mE,ac,bc,rfl,M',g1,g2,g3⟩;have yj:mo<a.size:=by lia
   refine aU (l0 g2 (aU (l0 yj ?_)));refine aU (a3g H (ju.1.trans hk) (sb _ g2) (sa _ yj) (j7 (λc=>?_) λc=>?_))
   ·refine aU (l0 g2 (j7 (λd=>?_) λd=>?_))
    ·have M2:=M'.stepB ub g2 λi hi h=>cS (fC c (ua mo i hi h))
     have e:mE+1=b.size:=eq_of_beq d;refine bg ⟨ju,.inl ⟨_,_,rfl,?_⟩⟩;rw[e]at M2 ⊢;exact M2.doneB ua
    ·have M2:=M'.stepB ub g2 λi hi h=>cS (fC c (ua mo i hi h))
     have e:mE+1≠b.size:=w8 d;exact j7 (λ_=>bg ⟨ju,.inr ⟨_,mo,mE+1,_,_,rfl,M2,g1,by lia,by lia⟩⟩) λ_=>bg ⟨ju,_,mo,mE+1,_,_,rfl,M2,g1,by lia,by lia⟩
   ·have c:=fR.mpr c;have M2:=M'.stepA ua yj λj hj h=>dg (show O.kle (ky a[mo]) (ky b[mE]) from c) (ub mE j hj h)
    refine aU (l0 yj (j7 (λd=>bg ⟨ju,.inl ⟨_,_,rfl,nF M2 (eq_of_beq d)⟩⟩) λd=>?_));have e:mo+1+1≠a.size:=w8 d;exact j7 (λ_=>bg ⟨ju,.inr ⟨_,mo+1,mE,_,_,rfl,M2,by lia,g2,by lia⟩⟩) λ_=>bg ⟨ju,_,mo+1,mE,_,_,rfl,M2,by lia,g2,by lia⟩
  case ipost=>
   rintro c fD ⟨ju,⟨r,z,rfl,hm⟩|⟨jw,mo,mE,ac,bc,rfl,M',g1,g2,g3⟩⟩
   ·exact bg ⟨ju,r,_,rfl,hm⟩
   refine aU (P1 ?_);refine aU (fT (dH (I:=λ_ c jJ=>SameG st jJ/\∃o2 i2 j2 mg ac bc,c=(p4,o2,i2,j2,mg,ac,bc)/\MInv ky a b o2 i2 j2/\i2+1<a.size/\j2<b.size/\mo+mE<=i2+j2)
    (Q:=λc jJ=>SameG st jJ/\((∃r z,c=(cz r,z)/\P0 ky a b r)\/∃o2 i2 j2 mg ac bc,c=(p4,o2,i2,j2,mg,ac,bc)/\MInv ky a b o2 i2 j2/\i2+1<a.size/\j2<b.size/\mo+mE<=i2+j2)) ?gstep ?gfin ⟨ju,jw,mo,mE,_,_,_,rfl,M',g1,g2,az _⟩) ?gpost)
   case gfin=>
    rintro c jJ ⟨nZ,x⟩;exact⟨nZ,.inr x⟩
   case gpost=>
    rintro c jJ ⟨nZ,⟨r,z,rfl,hm⟩|⟨o2,i2,j2,ud,AB,Az,rfl,M2,k1,k2,k3⟩⟩
    ·exact bg ⟨nZ,r,_,rfl,hm⟩
    refine aU (a0R λlC ur=>bg ?_);exact⟨nZ.trans ur,o2,i2,j2,_,rfl,M2,k1,k2,by lia⟩
   case gstep=>
    rintro y c jJ _ hy ⟨nZ,o2,i2,j2,ud,AB,Az,rfl,M2,k1,k2,k3⟩
    dsimp only
    refine' P2 (γ:=Nat) (δ:=True) (R:=λ_ _=>True) (λmg tt _=>?tl0) λtl=>?mn0
    case mn0=>
     have u:=trivial;refine j7 (λ_=>?_) λ_=>?_
     ·generalize ud-1=g;exact tl g u u
     ·exact tl ud u u
    refine aU (a0R λlC ur=>?_);have nH:=nZ.trans ur;refine aU (l0 k2 ?_);refine aU (a3i H (nH.1.trans hk) (ua.part _ _) (λi h _ _=>sa i h) (sb _ k2) (by lia) (by lia) λk q1 q2 q3=>?_);refine' P2 (R:=λi3 o3=>MInv ky a b o3 i3 j2/\i3=i2+k/\i3+1<a.size) (λi3 o3 h3=>?tl1) λtl=>?mn1
    case mn1=>
     refine j7 (λzP=>?_) λzP=>?_
     ·have M3:=MInv.manyA ua k M2 (by lia) λi hi h1 h2 j hj h3=>dg (q2 i hi h1 h2) (ub j2 j hj h3)
      refine j7 (λd=>bg ⟨nH,.inl ⟨_,_,rfl,nF M3 (eq_of_beq d)⟩⟩) λd=>j7 (λd2=>?_) λd2=>?_
      ·have e2:i2+k=a.size:=eq_of_beq d2;refine bg ⟨nH,.inl ⟨_,_,rfl,?_⟩⟩;have Cg:=M3;rw[e2]at Cg ⊢;exact Cg.doneA ub
      have e1:=w8 d;have e2:=w8 d2;generalize o2++a.extract i2 (i2+k)=o3 at M3 ⊢;obtain⟨i3,ei⟩:∃i3,i3=i2+k:=⟨_,rfl⟩;rw[<-ei]at M3 ⊢;exact tl i3 o3 ⟨M3,ei,by lia⟩
     ·exact tl i2 o2 ⟨M2,by lia,k1⟩
    obtain⟨M3,ei,rh⟩:=h3;have rh:i3<a.size:=by lia
    refine aU (l0 k2 ?_);have M4:=M3.stepB ub k2 λi hi h=>cS (q3 i hi (by lia) (by lia))
    refine j7 (λd3=>?_) λd3=>?_
    ·have e3:j2+1=b.size:=eq_of_beq d3;refine bg ⟨nH,.inl ⟨_,_,rfl,?_⟩⟩;rw[e3]at M4 ⊢;exact M4.doneB ua
    have e3:=w8 d3;refine aU (l0 rh ?_);refine aU (a3j H (nH.1.trans hk) (ub.part _ _) (λi h _ _=>sb i h) (sa _ rh) (by lia) (by lia) λk' r1 r2 r3=>?_);refine' P2 (R:=λj3 o3=>MInv ky a b o3 i3 j3/\j3=j2+1+k'/\j3<b.size) (λj3 o3 h3=>?tl2) λtl=>?mn2
    case mn2=>
     refine j7 (λvw=>?_) λvw=>?_
     ·have M5:=MInv.manyB ub k' M4 (by lia) λj hj h1 h2 i hi h3=>cS (fC (r2 j hj h1 h2) (ua i3 i hi h3))
      refine j7 (λd4=>?_) λd4=>?_
      ·have e4:j2+1+k'=b.size:=eq_of_beq d4;refine bg ⟨nH,.inl ⟨_,_,rfl,?_⟩⟩;rw[e4]at M5 ⊢;exact M5.doneB ua
      have e4:=w8 d4;generalize o3.push b[j2]++b.extract (j2+1) (j2+1+k')=o4 at M5 ⊢;obtain⟨j3,ej⟩:∃j3,j3=j2+1+k':=⟨_,rfl⟩;rw[<-ej]at M5 ⊢;exact tl j3 o4 ⟨M5,ej,by lia⟩
     ·generalize o3.push b[j2]=o4 at M4 ⊢;obtain⟨j3,ej⟩:∃j3,j3=j2+1:=⟨_,rfl⟩;rw[<-ej]at M4 ⊢;exact tl j3 o4 ⟨M4,by lia,by lia⟩
    obtain⟨M5,ej,GF⟩:=h3;have M6:=M5.stepA ua rh λj hj h=>r3 j hj (by lia) (by lia)
    refine aU (l0 rh (j7 (λd=>bg ⟨nH,.inl ⟨_,_,rfl,nF M6 (eq_of_beq d)⟩⟩) λd=>?_));have e5:=w8 d;exact j7 (λ_=>bg ⟨nH,.inr ⟨_,_,_,_,_,_,rfl,M6,by lia,by lia,by lia⟩⟩) λ_=>bg ⟨nH,_,_,_,_,_,_,rfl,M6,by lia,by lia,by lia⟩
end
section
variable {O:KeyOrd}{ky:bR->O.α}
structure NInv (ky:bR->O.α) (a b out:Array bR) (na nb:Nat):Prop where
 la:na<=a.size
 lb:nb<=b.size
 pm:out.toList.Perm (a.toList.drop na++b.toList.drop nb)
 up:out.toList.Pairwise λx y=>O.kle (ky y) (ky x)
 ra:∀x∈out.toList,∀i (h:i<a.size),i<na->O.kle (ky a[i]) (ky x)
 rb:∀x∈out.toList,∀i (h:i<b.size),i<nb->O.kle (ky b[i]) (ky x)
def a1r{α:Type}{l:List α}(h:i<l.length):l.drop i=l[i]::l.drop (i+1):=dw h
def NInv.stepA(M:NInv ky a b out (na+1) nb)(ua:UpA ky a)(h:na<a.size)(hb:∀j (hj:j<b.size),j<nb->O.kle (ky b[j]) (ky a[na])):NInv ky a b (out.push a[na]) na nb:=by
 refine⟨by lia,M.lb,?_,?_,λx hx i hi hh=>?_,λx hx j hj hh=>?_⟩
 ·rw[cw,a1r (l:=a.toList) (by simpa using h),bY,bP];exact (ke _ _).trans (M.pm.cons _)
 ·rw[cw,du];refine⟨M.up,dI _ _,λx hx y hy=>?_⟩;rw[aq.mp hy];exact M.ra x hx na h (by lia)
 ·rw[cw]at hx;rcases ay.mp hx with z|z
  ·exact M.ra x z i hi (by lia)
  ·rw[aq.mp z];exact ua i na h (by lia)
 ·rw[cw]at hx;rcases ay.mp hx with z|z
  ·exact M.rb x z j hj hh
  ·rw[aq.mp z];exact hb j hj hh
def NInv.stepB(M:NInv ky a b out na (nb+1))(ub:UpA ky b)(h:nb<b.size)(ha:∀i (hi:i<a.size),i<na->O.kle (ky a[i]) (ky b[nb])):NInv ky a b (out.push b[nb]) na nb:=by
 refine⟨M.la,by lia,?_,?_,λx hx i hi hh=>?_,λx hx j hj hh=>?_⟩
 ·rw[cw,a1r (l:=b.toList) (by simpa using h),bY];refine (ke _ _).trans ((M.pm.cons _).trans ?_);exact FR.symm
 ·rw[cw,du];refine⟨M.up,dI _ _,λx hx y hy=>?_⟩;rw[aq.mp hy];exact M.rb x hx nb h (by lia)
 ·rw[cw]at hx;rcases ay.mp hx with z|z
  ·exact M.ra x z i hi hh
  ·rw[aq.mp z];exact ha i hi hh
 ·rw[cw]at hx;rcases ay.mp hx with z|z
  ·exact M.rb x z j hj (by lia)
  ·rw[aq.mp z];exact ub j nb h (by lia)
def a6O{a out:Array bR}(h:i<a.size)(hn:i<n)(Gy:n<=a.size):(out++(a.extract (i+1) n).reverse).push a[i]=out++(a.extract i n).reverse:=by
 rw[pI,ki]
 congr 1;apply il;simp only[ng,mO,gP,kz];rw[show n-i=(n-(i+1))+1 by lia,a1r (l:=a.toList) (i:=i) (by simpa using h),List.take_succ_cons,gF,bY]
theorem NInv.manyA(ua:UpA ky a):∀(k:Nat) {out:Array bR},NInv ky a b out na nb->k<=na->(∀i (hi:i<a.size),na-k<=i->i<na->∀j (hj:j<b.size),j<nb->O.kle (ky b[j]) (ky a[i]))->NInv ky a b (out++(a.extract (na-k) na).reverse) (na-k) nb
 |0,out,M,_,_=>by
  have e:a.extract (na-0) na=#[]:=by apply il;simp
  rw[e];simpa using M
 |k+1,out,M,h,hb=>by
  have ih:=NInv.manyA ua k M (by lia) λi hi h1 h2=>hb i hi (by lia) h2
  have Bx:=M.la;rw[show na-k=(na-(k+1))+1 by lia]at ih;have:=ih.stepA ua (show na-(k+1)<a.size by lia) λj hj h1=>hb (na-(k+1)) (by lia) (az _) (by lia) j hj h1
  rw[a6O (by lia) (by lia) Bx]at this;exact this
theorem NInv.manyB(ub:UpA ky b):∀(k:Nat) {out:Array bR},NInv ky a b out na nb->k<=nb->(∀j (hj:j<b.size),nb-k<=j->j<nb->∀i (hi:i<a.size),i<na->O.kle (ky a[i]) (ky b[j]))->NInv ky a b (out++(b.extract (nb-k) nb).reverse) na (nb-k)
 |0,out,M,_,_=>by
  have e:b.extract (nb-0) nb=#[]:=by apply il;simp
  rw[e];simpa using M
 |k+1,out,M,h,hb=>by
  have ih:=NInv.manyB ub k M (by lia) λi hi h1 h2=>hb i hi (by lia) h2
  have Bw:=M.lb;rw[show nb-k=(nb-(k+1))+1 by lia]at ih;have:=ih.stepB ub (show nb-(k+1)<b.size by lia) λj hj h1=>hb (nb-(k+1)) (by lia) (az _) (by lia) j hj h1
  rw[a6O (by lia) (by lia) Bw]at this;exact this
def NInv.all(M:NInv ky a b out 0 0):P0 ky a b out.reverse:=by
 refine⟨?_,?_⟩
 ·rw[mO];refine (List.reverse_perm _).trans ?_;simpa using M.pm
 ·rw[mO,vP];exact M.up
def a2z{out c:Array bR}:(out++c.reverse).reverse=c++out.reverse:=by apply il;simp
def NInv.doneA(M:NInv ky a b out 0 nb)(ub:UpA ky b):P0 ky a b (a.extract 0 0++b.extract 0 nb++out.reverse):=by
 have:=(NInv.manyB ub nb M (az _) λj hj _ _ i hi h=>by lia);rw[fO]at this;have e:a.extract 0 0=#[]:=by apply il;simp
 have:=this.all;rw[a2z]at this;rw[e,Array.empty_append];exact this
def NInv.doneB(M:NInv ky a b out na 0)(ua:UpA ky a):P0 ky a b (a.extract 0 na++b.extract 0 0++out.reverse):=by
 have:=(NInv.manyA ua na M (az _) λj hj _ _ i hi h=>by lia);rw[fO]at this;have e:b.extract 0 0=#[]:=by apply il;simp
 have:=this.all;rw[a2z]at this;rw[e,ip];exact this
def NInv.first(M:NInv ky a b out na 1)(ua:UpA ky a)(ub:UpA ky b)(b0:0<b.size)(hf:∀i (hi:i<a.size),O.kle (ky b[0]) (ky a[i])):P0 ky a b (b.extract 0 1++a.extract 0 na++out.reverse):=by
 have M1:=NInv.manyA ua na M (az _) λi hi _ _ j hj h=>by
  have:j=0:=by lia
  subst this;exact hf i hi
 rw[fO]at M1;have M2:=(NInv.manyB ub 1 M1 (az _) λj hj _ _ i hi h=>by lia);rw[fO]at M2;have:=M2.all;rw[a2z,a2z,<-ki]at this;exact this
end
def b3I:Array bR->Array bR->StateT dq AE (Array bR):=sortPriv% PySem.Builtin.mergeHi
section
variable {prog:bA}{w:bQ}{A:bN}{E:ai->ao->Prop}{s:ao}{κ:fg}{O:KeyOrd}{ky:bR->O.α}{S:bR->Prop}{st:dq}
def a6P(H:CmpS prog w A s κ O ky S)(hk:kindOf st=κ)(ua:UpA ky a)(ub:UpA ky b)(sa:∀i (h:i<a.size),S a[i])(sb:∀i (h:i<b.size),S b[i])(a0:0<a.size)(b0:0<b.size)(hf:O.klt (ky b[0]) (ky a[0]))(hl:∀j (hj:j<b.size),O.klt (ky b[j]) (ky (a[a.size-1]'(by lia))))
  (q:∀out cQ,SameG st cQ->P0 ky a b out->Q out cQ):tW (a_ prog w) A E s (b3I a b) Q st:=by
 have M0:NInv ky a b #[a[a.size-1]'(by lia)] (a.size-1) b.size:=by
  have M:NInv ky a b #[] (a.size-1+1) b.size:=⟨by lia,az _,by simp;lia,by simp,λx hx=>by simp at hx,λx hx=>by simp at hx⟩;have:=M.stepA ua (show a.size-1<a.size by lia) λj hj _=>cS (hl j hj)
  simpa using this
 have rm:∀i (hi:i<a.size),O.kle (ky b[0]) (ky a[i]):=λi hi=>cS (fC hf (ua 0 i hi (by lia)))
 have mB:∀{out:Array bR} {na nb:Nat},NInv ky a b out na nb->nb=1->P0 ky a b (b.extract 0 nb++a.extract 0 na++out.reverse):=λ{out na nb} M h=>by subst h;exact M.first ua ub b0 rm
 have nJ:∀{out:Array bR} {na nb:Nat},NInv ky a b out na nb->na=0->P0 ky a b (a.extract 0 na++b.extract 0 nb++out.reverse):=λ{out na nb} M h=>by subst h;exact M.doneA ub
 refine aU (P1 ?_);refine aU (l0 (show a.size-1<a.size by lia) ?_);refine j7 (λc1=>bg (q _ _ (SameG.refl _) (nJ M0 (eq_of_beq c1)))) λc1=>j7 (λc2=>bg (q _ _ (SameG.refl _) (mB M0 (eq_of_beq c2)))) λc2=>?_
 have FG:a.size-1≠0:=w8 c1;have FF:b.size≠1:=w8 c2;refine aU (ny ?_);refine aU (fT (dH (I:=λx c cQ=>SameG st cQ/\∃na nb out mg,c=(p4,na,nb,out,mg)/\NInv ky a b out na nb/\0<na/\1<nb/\na+nb+x+1<=a.size+b.size)
  (Q:=λc cQ=>SameG st cQ/\∃r z,c=(cz r,z)/\P0 ky a b r) ?ostep ?ofin ⟨SameG.refl _,a.size-1,b.size,_,_,rfl,M0,by lia,by lia,by lia⟩) ?opost)
 case opost=>
  rintro c cQ ⟨hs,r,z,rfl,hm⟩;exact bg (q r cQ hs hm)
 case ofin=>
  rintro c cQ ⟨hs,na,nb,out,mg,rfl,M,h1,h2,h3⟩;lia
 case ostep=>
  rintro x c cQ _ hx ⟨hs,na,nb,out,mg,rfl,M,h1,h2,h3⟩;have Bx:=M.la;have Bw:=M.lb;refine aU (fT (dH (I:=λx' c fD=>SameG st fD/\∃lV lU jw ac bc,c=(p4,lV,lU,jw,ac,bc)/\NInv ky a b jw lV lU/\0<lV/\1<lU/\lV+lU+x'=na+nb)
   (Q:=λc fD=>SameG st fD/\((∃r z,c=(cz r,z)/\P0 ky a b r)\/∃lV lU jw ac bc,c=(p4,lV,lU,jw,ac,bc)/\NInv ky a b jw lV lU/\0<lV/\1<lU/\lV+lU+1<=na+nb)) ?istep ?ifin ⟨hs,na,nb,out,_,_,rfl,M,h1,h2,by lia⟩) ?ipost)
  case ifin=>
   rintro c fD ⟨ju,lV,lU,jw,ac,bc,rfl,M',g1,g2,g3⟩;exact⟨ju,.inr ⟨_,_,_,_,_,rfl,M',g1,g2,by lia⟩⟩
  case istep=>
   rintro x' c fD _ wq ⟨ju,lV,lU,jw,ac,bc,rfl,M',g1,g2,g3⟩;have ja:lV-1<a.size:=by have:=M'.la;lia
   have jb:lU-1<b.size:=by have:=M'.lb;lia
   refine aU (l0 jb (aU (l0 ja ?_)));refine aU (a3g H (ju.1.trans hk) (sb _ jb) (sa _ ja) (j7 (λc=>?_) λc=>?_))
   ·have M2:=NInv.stepA (na:=lV-1) (by rw[show lV-1+1=lV by lia];exact M') ua ja λj hj h=>cS (KeyOrd.klt_of_kle_of_klt (ub j (lU-1) jb (by lia)) c)
    refine aU (l0 ja (j7 (λd=>bg ⟨ju,.inl ⟨_,_,rfl,nJ M2 (eq_of_beq d)⟩⟩) λd=>?_));have e:lV-1≠0:=w8 d;exact j7 (λ_=>bg ⟨ju,.inr ⟨lV-1,lU,_,_,_,rfl,M2,by lia,g2,by lia⟩⟩) λ_=>bg ⟨ju,lV-1,lU,_,_,_,rfl,M2,by lia,g2,by lia⟩
   ·have c:=fR.mpr c;have M2:=NInv.stepB (nb:=lU-1) (by rw[show lU-1+1=lU by lia];exact M') ub jb λi hi h=>dg (ua i (lV-1) ja (by lia)) (show O.kle (ky a[lV-1]) (ky b[lU-1]) from c)
    refine aU (l0 jb (j7 (λd=>bg ⟨ju,.inl ⟨_,_,rfl,mB M2 (eq_of_beq d)⟩⟩) λd=>?_));have e:lU-1≠1:=w8 d;exact j7 (λ_=>bg ⟨ju,.inr ⟨lV,lU-1,_,_,_,rfl,M2,g1,by lia,by lia⟩⟩) λ_=>bg ⟨ju,lV,lU-1,_,_,_,rfl,M2,g1,by lia,by lia⟩
  case ipost=>
   rintro c fD ⟨ju,⟨r,z,rfl,hm⟩|⟨lV,lU,jw,ac,bc,rfl,M',g1,g2,g3⟩⟩
   ·exact bg ⟨ju,r,_,rfl,hm⟩
   refine aU (P1 ?_);refine aU (fT (dH (I:=λ_ c jJ=>SameG st jJ/\∃i2 j2 o2 mg ac bc,c=(p4,i2,j2,o2,mg,ac,bc)/\NInv ky a b o2 i2 j2/\0<i2/\1<j2/\i2+j2<=lV+lU)
    (Q:=λc jJ=>SameG st jJ/\((∃r z,c=(cz r,z)/\P0 ky a b r)\/∃i2 j2 o2 mg ac bc,c=(p4,i2,j2,o2,mg,ac,bc)/\NInv ky a b o2 i2 j2/\0<i2/\1<j2/\i2+j2<=lV+lU)) ?gstep ?gfin ⟨ju,lV,lU,jw,_,_,_,rfl,M',g1,g2,az _⟩) ?gpost)
   case gfin=>
    rintro c jJ ⟨nZ,x⟩;exact⟨nZ,.inr x⟩
   case gpost=>
    rintro c jJ ⟨nZ,⟨r,z,rfl,hm⟩|⟨i2,j2,o2,ud,AB,Az,rfl,M2,k1,k2,k3⟩⟩
    ·exact bg ⟨nZ,r,_,rfl,hm⟩
    refine aU (a0R λlC ur=>bg ?_);exact⟨nZ.trans ur,i2,j2,o2,_,rfl,M2,k1,k2,by lia⟩
   case gstep=>
    rintro y c jJ _ hy ⟨nZ,i2,j2,o2,ud,AB,Az,rfl,M2,k1,k2,k3⟩;have ja:=M2.la;have jb:=M2.lb;have wd:j2-1<b.size:=by lia
    dsimp only
    refine' P2 (γ:=Nat) (δ:=True) (R:=λ_ _=>True) (λmg tt _=>?tl0) λtl=>?mn0
    case mn0=>
     have u:=trivial;refine j7 (λ_=>?_) λ_=>?_
     ·generalize ud-1=g;exact tl g u u
     ·exact tl ud u u
    refine aU (a0R λlC ur=>?_);have nH:=nZ.trans ur;refine aU (l0 wd ?_);refine aU (a3i H (nH.1.trans hk) (ua.part _ _) (λi h _ _=>sa i h) (sb _ wd) (by lia) (by lia) λk q1 q2 q3=>?_)
    dsimp only
    generalize rz:i2-k=ac;refine' P2 (R:=λi3 o3=>NInv ky a b o3 i3 j2/\i3=k/\0<i3) (λi3 o3 h3=>?tl1) λtl=>?mn1
    case mn1=>
     refine j7 (λzP=>?_) λzP=>?_
     ·have M3:=NInv.manyA ua (i2-k) M2 (by lia) λi hi h1 h2 j hj h3=>dg (ub j (j2-1) wd (by lia)) (cS (q3 i hi (by lia) (by lia)))
      rw[show i2-(i2-k)=k by lia]at M3;refine j7 (λd=>bg ⟨nH,.inl ⟨_,_,rfl,nJ M3 (eq_of_beq d)⟩⟩) λd=>?_
      have e1:=w8 d;generalize o2++(a.extract k i2).reverse=o3 at M3 ⊢;obtain⟨i3,ei⟩:∃i3,i3=k:=⟨_,rfl⟩;rw[<-ei]at M3 ⊢;exact tl i3 o3 ⟨M3,ei,by lia⟩
     ·exact tl i2 o2 ⟨M2,by lia,k1⟩
    obtain⟨M3,ei,h0⟩:=h3;have M4:=NInv.stepB (nb:=j2-1) (by rw[show j2-1+1=j2 by lia];exact M3) ub wd λi hi h=>q2 i hi (by lia) (by lia)
    refine aU (l0 wd (j7 (λd=>bg ⟨nH,.inl ⟨_,_,rfl,mB M4 (eq_of_beq d)⟩⟩) λd3=>?_));have e3:=w8 d3;have rh:i3-1<a.size:=by lia
    refine aU (l0 rh ?_);refine aU (a3j H (nH.1.trans hk) (ub.part _ _) (λi h _ _=>sb i h) (sa _ rh) (by lia) (by lia) λk' r1 r2 r3=>?_)
    dsimp only
    generalize GG:j2-1-k'=bc;refine' P2 (R:=λj3 o4=>NInv ky a b o4 i3 j3/\j3=k'/\1<j3) (λj3 o4 h3=>?tl2) λtl=>?mn2
    case mn2=>
     refine j7 (λvw=>?_) λvw=>?_
     ·have M5:=NInv.manyB ub (j2-1-k') M4 (by lia) λj hj h1 h2 i hi h3=>dg (ua i (i3-1) rh (by lia)) (r3 j hj (by lia) (by lia))
      rw[show j2-1-(j2-1-k')=k' by lia]at M5;refine j7 (λd=>bg ⟨nH,.inl ⟨_,_,rfl,mB M5 (eq_of_beq d)⟩⟩) λd4=>j7 (λd6=>?_) λd6=>?_
      ·have e6:k'=0:=eq_of_beq d6;refine bg ⟨nH,.inl ⟨_,_,rfl,?_⟩⟩;have Cf:=M5;rw[e6]at Cf ⊢;exact Cf.doneB ua
      have e4:=w8 d4;have e6:=w8 d6;generalize o3.push b[j2-1]++(b.extract k' (j2-1)).reverse=o4 at M5 ⊢;obtain⟨j3,ej⟩:∃j3,j3=k':=⟨_,rfl⟩;rw[<-ej]at M5 ⊢;exact tl j3 o4 ⟨M5,ej,by lia⟩
     ·generalize o3.push b[j2-1]=o4 at M4 ⊢;exact tl (j2-1) o4 ⟨M4,by lia,by lia⟩
    obtain⟨M5,ej,h1⟩:=h3;have M6:=NInv.stepA (na:=i3-1) (by rw[show i3-1+1=i3 by lia];exact M5) ua rh λj hj h=>cS (r2 j hj (by lia) (by lia))
    refine aU (l0 rh (j7 (λd=>bg ⟨nH,.inl ⟨_,_,rfl,nJ M6 (eq_of_beq d)⟩⟩) λd=>?_));have e5:=w8 d;exact j7 (λ_=>bg ⟨nH,.inr ⟨_,_,_,_,_,_,rfl,M6,by lia,by lia,by lia⟩⟩) λ_=>bg ⟨nH,_,_,_,_,_,_,rfl,M6,by lia,by lia,by lia⟩
end
theorem a9E{α:Type}(p0:Nat):∀(l:List α) (n:Nat) (arr:Array α),p0+n+l.length<=arr.size->((l.zipIdx n).foldl (λa (q:α×Nat)=>a.setIfInBounds (p0+q.2) q.1) arr).toList=arr.toList.take (p0+n)++l++arr.toList.drop (p0+n+l.length)
 |[],n,arr,h=>by simp
 |x::l,n,arr,h=>by
  rw[aS]at h;rw[List.zipIdx_cons,qL,a9E p0 l (n+1) _ (by rw[kT];lia),Array.toList_setIfInBounds];have hl:p0+n<arr.toList.length:=by rw[aJ];lia
  have e1:(arr.toList.set (p0+n) x).take (p0+(n+1))=arr.toList.take (p0+n)++[x]:=by
   rw[show p0+(n+1)=(p0+n)+1 by lia,take_snoc (by rw[qJ];exact hl),List.take_set_of_le (az _),List.getElem_set_self]
  have e2:(arr.toList.set (p0+n) x).drop (p0+(n+1)+l.length)=arr.toList.drop (p0+n+(x::l).length):=by
   rw[List.drop_set_of_lt (by lia),aS]
   congr 1;lia
  rw[e1,e2];simp
section
variable {prog:bA}{w:bQ}{A:bN}{E:ai->ao->Prop}{s:ao}{κ:fg}{O:KeyOrd}{ky:bR->O.α}{S:bR->Prop}{st:dq}
def b6D(h:Q ⟨⟩ cQ):tW (a_ prog w) A E s (set cQ:StateT dq AE PUnit) Q st:=by
 unfold tW;rw[StateT.run_set];exact aA ⟨rfl,h⟩
def a1T{arr:Array bR}{base n:Nat}(u:UpR ky arr base n)(hn:base+n<=arr.size){lo hi:Nat}(h1:base<=lo)(h2:lo<=hi)(h3:hi<=base+n):UpA ky (arr.extract lo hi):=by
 intro i j hj h;rw[nQ]at hj;rw[dR,dR];exact u (lo+i) (lo+j) (by lia) (by lia) (by lia) (by lia)
structure Fused (ky:bR->O.α) (arr mV:Array bR) (lo hi:Nat):Prop where
 pm:mV.toList.Perm arr.toList
 out:∀t,t<lo\/hi<=t->mV[t]?=arr[t]?
 up:UpR ky mV lo (hi-lo)
def a6Q(H:CmpS prog w A s κ O ky S)(hk:kindOf st=κ){i sa na pw sb nb yP:Nat}(p1:(cE st)[i]?=cz (sa,na,pw))(p2:(cE st)[i+1]?=cz (sb,nb,yP))(zt:sb=sa+na)(yb:0<na)(yX:0<nb)(oN:sb+nb<=(ba st).size)(sS:∀i (h:i<(ba st).size),S (ba st)[i])(u1:UpR ky (ba st) sa na)(u2:UpR ky (ba st) sb nb)(hfl:fU st=p4){Q:Bool->dq->Prop}
  (q:∀cQ,kindOf cQ=kindOf st->fU cQ=p4->cE cQ=((cE st).setIfInBounds i (sa,na+nb,pw)).eraseIdxIfInBounds (i+1)->Fused ky (ba st) (ba cQ) sa (sb+nb)->Q rp cQ):tW (a_ prog w) A E s (mergeAt' i) Q st:=by
 refine aU (ny ?_);rw[p1,p2]
 dsimp only
 refine aU (b6D ?_);have b0:sb<(ba st).size:=by lia
 refine aU (l0 b0 ?_);refine aU (a3i H (by exact hk) u1 (λi h _ _=>sS i h) (sS _ b0) (by lia) yb λk k1 k2 k3=>?_)
 dsimp only
 have tM:(∀i (hi:i<(ba st).size),sa<=i->i<sb->O.kle (ky (ba st)[i]) (ky (ba st)[sb]))->Fused ky (ba st) (ba st) sa (sb+nb):=λh=>⟨iG _,λ_ _=>rfl,λi j hj iw h1 h2=>by
  rcases bK j sb with c|c
  ·exact u1 i j hj iw h1 (by lia)
  ·rcases bK i sb with d|d
   ·exact dg (h i (by lia) h1 d) (u2 sb j hj c (az _) (by lia))
   ·exact u2 i j hj iw d (by lia)⟩
 by_cases c1:(na-k==0)=rp
 ·rw[aE c1];have e:na-k=0:=by simpa using c1
  exact bg (q _ rfl hfl rfl (tM λi hi h1 h2=>k2 i hi h1 (by lia)))
 rw[aM c1];have e1:na-k≠0:=by simpa using c1
 have al:sa+k+(na-k)-1<(ba st).size:=by lia
 refine aU (l0 al ?_);refine aU (a3j H (by exact hk) u2 (λi h _ _=>sS i h) (sS _ al) (by lia) (by lia) λm m1 m2 m3=>?_)
 dsimp only
 by_cases c2:(m==0)=rp
 ·rw[aE c2];have e:m=0:=by simpa using c2
  refine bg (q _ rfl hfl rfl (tM λi hi h1 h2=>?_));refine dg (u1 i (sa+k+(na-k)-1) al (by lia) h1 (by lia)) (m3 sb b0 (by lia) (by lia))
 rw[aM c2];have e2:m≠0:=by simpa using c2
 have xs:((ba st).extract (sa+k) sb).size=na-k:=by rw[nQ];lia
 have ys:((ba st).extract sb (sb+m)).size=m:=by rw[nQ];lia
 have ux:UpA ky ((ba st).extract (sa+k) sb):=a1T u1 (by lia) (by lia) (by lia) (by lia);have uy:UpA ky ((ba st).extract sb (sb+m)):=a1T u2 (by lia) (by lia) (by lia) (by lia);have sx:∀i (h:i<((ba st).extract (sa+k) sb).size),S ((ba st).extract (sa+k) sb)[i]:=λi h=>by rw[dR];exact sS _ _
 have sy:∀i (h:i<((ba st).extract sb (sb+m)).size),S ((ba st).extract sb (sb+m))[i]:=λi h=>by rw[dR];exact sS _ _
 have hf:O.klt (ky (((ba st).extract sb (sb+m))[0]'(by lia))) (ky (((ba st).extract (sa+k) sb)[0]'(by lia))):=by
  rw[dR,dR];exact k3 (sa+k+0) (by lia) (by lia) (by lia)
 have hl:∀j (hj:j<((ba st).extract sb (sb+m)).size),O.klt (ky ((ba st).extract sb (sb+m))[j]) (ky (((ba st).extract (sa+k) sb)[((ba st).extract (sa+k) sb).size-1]'(by lia))):=λj hj=>by
  rw[dR,dR];have:=m2 (sb+j) (by lia) (by lia) (by lia);simp only[xs];have e:sa+k+(na-k-1)=sa+k+(na-k)-1:=by lia
  simp only[e];exact this
 have fin:∀out cQ,SameG (setPending st (((cE st).setIfInBounds i (sa,na+nb,pw)).eraseIdxIfInBounds (i+1))) cQ->P0 ky ((ba st).extract (sa+k) sb) ((ba st).extract sb (sb+m)) out->
   tW (a_ prog w) A E s (do
    modify λs=>setArr s (out.toList.zipIdx.foldl (λa (p,j)=>a.setIfInBounds (sa+k+j) p) (ba s))
    return (fU (<-get)).isNone) Q cQ:=by
  rintro out cQ ⟨g1,g2,g3,g4⟩ hm;have os:out.size=na-k+m:=by
   have:=hm.1.length_eq;rw[av,aJ,aJ,aJ,xs,ys]at this;exact this
  have nW:ba cQ=ba st:=g2;have wl:=a9E (sa+k) out.toList 0 (ba st) (by rw[aJ];lia);rw[uS,aJ]at wl;refine aU (mP (aU (ny (bg ?_))));have ff:(fU cQ).isNone=rp:=by rw[show fU cQ=fU st from g4,hfl];rfl
  show Q (fU cQ).isNone _;rw[ff];refine q _ g1 (by show fU cQ=p4;rw[show fU cQ=fU st from g4,hfl]) g3 ?_;show Fused ky (ba st) (out.toList.zipIdx.foldl (λa (q:bR×Nat)=>a.setIfInBounds (sa+k+q.2) q.1) (ba cQ)) sa (sb+nb);rw[nW];generalize hW:out.toList.zipIdx.foldl (λa (q:bR×Nat)=>a.setIfInBounds (sa+k+q.2) q.1) (ba st)=W at wl;have Bf:((ba st).extract (sa+k) sb).toList++((ba st).extract sb (sb+m)).toList=((ba st).toList.drop (sa+k)).take (na-k+m):=by
   rw[gP,gP];simp only[kz];rw[show sb-(sa+k)=na-k by lia,show sb+m-sb=m by lia,List.take_add,List.drop_drop,show sa+k+(na-k)=sb by lia]
  have ws:W.size=(ba st).size:=by
   have:=dG dQ wl;rw[av,av,dO,gU,aJ,aJ,aJ]at this;lia
  have lo:∀t,t<sa+k->W[t]?=(ba st)[t]?:=λt ht=>by
   rw[<-bh,wl,aH,cG (by rw[dO,aJ];lia),kR ht,bh]
  have hi:∀t,sa+k+out.size<=t->W[t]?=(ba st)[t]?:=λt ht=>by
   rw[<-bh,wl,bI (by rw[av,dO,aJ,aJ];lia),List.getElem?_drop,av,dO,aJ,aJ,<-bh]
   congr 1;lia
  have mid:∀t,t<out.size->W[sa+k+t]?=out[t]?:=λt ht=>by
   rw[<-bh,wl,aH,bI (by rw[dO,aJ];lia),dO,aJ,cG (by rw[aJ];lia),bh]
   congr 1;lia
  have src:∀x∈out.toList,∃u,∃h:u<(ba st).size,sa+k<=u/\u<sb+m/\x=(ba st)[u]:=λx hx=>by
   have h1:=hm.1.mem_iff.mp hx;rw[Bf]at h1;obtain⟨v,hv,e⟩:=eN.mp h1;rw[dO,gU,aJ]at hv;refine⟨sa+k+v,by lia,by lia,by lia,?_⟩;rw[<-e,Ci,oJ,bY]
  refine⟨?_,λt ht=>?_,λt1 t2 h2 GP hlo uE=>?_⟩
  ·rw[wl];have e:(ba st).toList=(ba st).toList.take (sa+k)++((ba st).toList.drop (sa+k)).take (na-k+m)++(ba st).toList.drop (sa+k+out.size):=by
    have e2:(ba st).toList.drop (sa+k+(na-k+m))=((ba st).toList.drop (sa+k)).drop (na-k+m):=by rw[List.drop_drop]
    rw[os,aH,e2,fF,fF]
   conv=>rhs;rw[e]
   refine List.Perm.append_right _ (mj _ ?_);rw[<-Bf];exact hm.1
  ·rcases ht with h|h
   ·exact lo t (by lia)
   ·exact hi t (by lia)
  ·have Fo:∀t (h:t<W.size) (h':t<(ba st).size),t<sa+k\/sa+k+out.size<=t->W[t]=(ba st)[t]:=λt h h' ht=>by
    have:=ht.elim (lo t) (hi t);rw[bF h,bF h']at this;exact aF this
   have md:∀t (h:t<W.size),sa+k<=t->t<sa+k+out.size->∃h':t-(sa+k)<out.size,W[t]=out[t-(sa+k)]:=λt h ht Dt=>by
    have:=mid (t-(sa+k)) (by lia);rw[show sa+k+(t-(sa+k))=t by lia,bF h,bF (by lia)]at this;exact⟨by lia,aF this⟩
   have any:∀t (h:t<W.size),sa<=t->t<sb+nb->∃u,∃h':u<(ba st).size,W[t]=(ba st)[u]/\(u=t\/sa+k<=u/\u<sb+m/\sa+k<=t/\t<sa+k+out.size):=λt h ht Dt=>by
    by_cases c:t<sa+k\/sa+k+out.size<=t
    ·exact⟨t,by lia,Fo t h _ c,.inl rfl⟩
    ·obtain⟨h',e⟩:=md t h (by lia) (by lia);obtain⟨u,hu,Ds,Dr,e'⟩:=src _ (kU h');exact⟨u,hu,e.trans e',.inr ⟨Ds,Dr,by lia,by lia⟩⟩
   have w1:t1<W.size:=by lia
   obtain⟨a,ha,ea,ca⟩:=any t1 w1 hlo (by lia);obtain⟨b,hb,eb,cb⟩:=any t2 h2 (by lia) (by lia);by_cases c:t1<sa+k
   ·rw[ea,eb];rcases bK b sb with z|z
    ·exact u1 a b hb (by lia) (by lia) (by lia)
    ·rcases bK a sb with y|y
     ·exact dg (k2 a ha (by lia) (by lia)) (u2 sb b hb z (az _) (by lia))
     ·lia
   by_cases d:sa+k+out.size<=t2
   ·rw[ea,eb];rcases bK a sb with y|y
    ·exact dg (u1 a (sa+k+(na-k)-1) al (by lia) (by lia) (by lia)) (m3 b hb (by lia) (by lia))
    ·exact u2 a b hb (by lia) y (by lia)
   obtain⟨nV,e1⟩:=md t1 w1 (by lia) (by lia);obtain⟨ox,e2⟩:=md t2 h2 (by lia) (by lia);rcases bK t1 t2 with y|y
   ·have:=ku.mp hm.2 (t1-(sa+k)) (t2-(sa+k)) (by rw[aJ];lia) (by rw[aJ];lia) (by lia)
    rwa[bY,bY,<-e1,<-e2]at this
   ·have:t1=t2:=by lia
    subst this;exact eA _
 split
 ·exact aU (a6N H (by exact hk) ux uy sx sy (by lia) (by lia) hf hl λout cQ hs hm=>fin out cQ hs hm)
 ·exact aU (a6P H (by exact hk) ux uy sx sy (by lia) (by lia) hf hl λout cQ hs hm=>fin out cQ hs hm)
end
def a6R{α:Sort _}{P:α->Prop}{G:Prop}(code:α)(h:P code)(k:P code->G):G:=k h
section
variable {prog:bA}{w:bQ}{A:bN}{E:ai->ao->Prop}{s:ao}{κ:fg}{O:KeyOrd}{ky:bR->O.α}{S:bR->Prop}{st:dq}
def kq(ky:bR->O.α)(d:O.α)(arr:Array bR)(t:Nat):O.α:=(arr[t]?.map ky).getD d
def W3{xs ys:Array bR}(h:xs[i]?=ys[j]?):kq ky d xs i=kq ky d ys j:=by unfold kq;rw[h]
def a9F{arr:Array bR}(h:t<arr.size):kq ky d arr t=ky arr[t]:=by unfold kq;rw[bF h];rfl
def a1s{xs:Array bR}(hj:j<=xs.size)(k:Nat):kq ky d (nR xs i j ((j-i) / 2)) k=if i<=k/\k<j then kq ky d xs (i+j-1-k) else kq ky d xs k:=by
 have e:=getElem?_mirror_all (i:=i) hj k
 split
 ·rename_i h;rw[aE h]at e;exact W3 e
 ·rename_i h;rw[aM h]at e;exact W3 e
def L0{xs:Array bR}(hj:j<=xs.size)(heq:∀k,i<=k->k<j->kq ky d xs k=kq ky d xs (j-1))(k:Nat):kq ky d (nR xs i j ((j-i) / 2)) k=kq ky d xs k:=by
 rw[a1s hj]
 split
 ·rw[heq _ (by lia) (by lia),heq k (by lia) (by lia)]
 ·rfl
def AscTo(ky:bR->O.α)(d:O.α)(arr:Array bR)(lo n:Nat):Prop:=∀i j,i<=j->j<n->O.kle (kq ky d arr (lo+i)) (kq ky d arr (lo+j))
def a3k(ky:bR->O.α)(d:O.α)(arr:Array bR)(lo n:Nat):Prop:=∀i j,i<=j->j<n->O.kle (kq ky d arr (lo+j)) (kq ky d arr (lo+i))
def AscTo.up{d:O.α}{arr:Array bR}{lo n:Nat}(h:AscTo ky d arr lo n):UpR ky arr lo n:=λi j hj iw h1 h2=>by
 have:=h (i-lo) (j-lo) (by lia) (by lia);rw[show lo+(i-lo)=i by lia,show lo+(j-lo)=j by lia,a9F hj,a9F (show i<arr.size by lia)]at this;exact this
structure SB (S:bR->Prop) (κ:fg) (lz st:dq) (lo hi:Nat):Prop where
 kind:kindOf st=κ
 fl:fU st=p4
 pn:cE st=cE lz
 pm:(ba st).Perm (ba lz)
 out:∀t,t<lo\/hi<=t->(ba st)[t]?=(ba lz)[t]?
 all:∀i (h:i<(ba st).size),S (ba st)[i]
theorem SB.size{lz:dq}{lo hi:Nat}(h:SB S κ lz st lo hi):(ba st).size=(ba lz).size:=by have:=(fE.mp h.pm).length_eq;simpa using this
def SB.mod{lz:dq}{lo hi:Nat}(h:SB S κ lz st lo hi){xs:Array bR}(p:xs.Perm (ba st))(o:∀t,t<lo\/hi<=t->xs[t]?=(ba st)[t]?):SB S κ lz (setArr st xs) lo hi:=by
 refine⟨h.kind,h.fl,h.pn,p.trans h.pm,λt ht=>(o t ht).trans (h.out t ht),λi hi=>?_⟩;have hm:xs[i]∈(ba st).toList:=(fE.mp p).mem_iff.mp (kU hi);obtain⟨j,hj,e⟩:=eN.mp hm;show S xs[i];rw[<-e,bY];exact h.all j (by simpa using hj)
def SB.mir{lz:dq}{lo hi i j:Nat}(h:SB S κ lz st lo hi)(h1:lo<=i)(h2:j<=hi)(h3:j<=(ba st).size):SB S κ lz (setArr st (nR (ba st) i j ((j-i) / 2))) lo hi:=h.mod (mirror_perm _ _ _ _) λt ht=>by
 rw[getElem?_mirror_all h3,aM (by lia)]
def K0(H:CmpS prog w A s κ O ky S){d:O.α}{lz:dq}{lo hi i j:Nat}(B:SB S κ lz st lo hi)(lG:i<(ba st).size)(sC:j<(ba st).size){Q:Option Bool->dq->Prop}(h:Q (cz (O.blt (kq ky d (ba st) i) (kq ky d (ba st) j))) st):tW (a_ prog w) A E s (ltAt' i j) Q st:=by
 rw[ltAt'_eq];refine aU (ny ?_)
 dsimp only
 refine aU (l0 lG (aU (l0 sC ?_)));rw[a9F lG,a9F sC]at h;exact a3g H B.kind (B.all _ _) (B.all _ _) h
def a0S(h:Q () (setArr st (nR (ba st) i j ((j-i) / 2)))):tW (a_ prog w) A E s (reverseSlice' i j) Q st:=by
 rw[reverseSlice'_eq];exact mP h
def a3Z(H:CmpS prog w A s κ O ky S){d:O.α}{lz:dq}{lo iu:Nat}(B:SB S κ lz st lo (lo+iu))(hn:lo+iu<=(ba lz).size)(h1:1<=iu){Q:Option Nat->dq->Prop}
  (q:∀m cQ,SB S κ lz cQ lo (lo+iu)->1<=m->m<=iu->AscTo ky d (ba cQ) lo m->Q (cz m) cQ):tW (a_ prog w) A E s (countRun' lo iu) Q st:=by
 have AA:∀{cQ:dq},AscTo ky d (ba cQ) lo 1:=λ{cQ} i j iw hj=>by
  have:i=j:=by lia
  subst this;exact eA _
 have pX:∀{cQ:dq} {n:Nat},1<=n->AscTo ky d (ba cQ) lo n->O.blt (kq ky d (ba cQ) (lo+n)) (kq ky d (ba cQ) (lo+n-1))=xn->AscTo ky d (ba cQ) lo (n+1):=λ{cQ n} yf ha hb i j iw hj=>by
  by_cases c:j<n
  ·exact ha i j iw c
  ·have:j=n:=by lia
   subst this;by_cases e:i=j
   ·subst e;exact eA _
   ·have h2:=ha i (j-1) (by lia) (by lia);rw[show lo+(j-1)=lo+j-1 by lia]at h2;exact dg h2 hb
 have pV:∀{cQ:dq} {xs:Array bR} {x:Nat},(∀k,kq ky d xs k=kq ky d (ba cQ) k)->1<=x->a3k ky d (ba cQ) lo x->O.kle (kq ky d (ba cQ) (lo+x)) (kq ky d (ba cQ) (lo+x-1))->a3k ky d xs lo (x+1):=λ{cQ xs x} hk hx D2 hb i j iw hj=>by
  rw[hk,hk];by_cases wX:j<x
  ·exact D2 i j iw wX
  ·have:j=x:=by lia
   subst this;by_cases e:i=j
   ·subst e;exact eA _
   ·have h2:=D2 i (j-1) (by lia) (by lia);rw[show lo+(j-1)=lo+j-1 by lia]at h2;exact dg hb h2
 rw[countRun'_eq];refine aU (fT (dH (I:=λx c cQ=>cQ=st/\c=(p4,x)/\AscTo ky d (ba st) lo x)
  (Q:=λc cQ=>cQ=st/\∃n,c=(p4,n)/\1<=n/\n<=iu/\AscTo ky d (ba st) lo n/\(n=iu\/O.klt (kq ky d (ba st) (lo+n)) (kq ky d (ba st) (lo+n-1)))) ?astep ?afin ⟨rfl,rfl,AA⟩) ?apost)
 case afin=>
  rintro c cQ ⟨rfl,rfl,ha⟩;rw[show max 1 iu=iu by lia]at ha ⊢;exact⟨rfl,iu,rfl,h1,az _,ha,.inl rfl⟩
 case astep=>
  rintro x c cQ yc Dh ⟨rfl,rfl,ha⟩;have sz:=B.size
  dsimp only
  exact aU (K0 H (d:=d) B (by lia) (by lia) (j7 (λhb=>bg ⟨rfl,x,rfl,yc,by lia,ha,.inr hb⟩) λhb=>bg ⟨rfl,rfl,pX yc ha (fR.mpr hb)⟩))
 case apost=>
  rintro c cQ ⟨rfl,n,rfl,n1,nn,ha,DE⟩;have sz:=B.size
  dsimp only
  refine j7 (λcn=>bg (q n cQ B n1 nn ha)) λcn=>?_
  have en:=w8 cn;have jN:O.klt (kq ky d (ba cQ) (lo+n)) (kq ky d (ba cQ) (lo+n-1)):=DE.resolve_left en;refine' a6R (P:=λcode=>∀uZ:dq,SB S κ lz uZ lo (lo+iu)->a3k ky d (ba uZ) lo (n+1)->tW (a_ prog w) A E s code Q uZ) _ ?desc λdesc=>?main
  case main=>
   refine j7 (λEo=>?_) λEo=>?_
   ·refine aU (K0 H (d:=d) B (by lia) (by lia) (j7 (λpO=>bg (q n cQ B n1 nn ha)) λpO=>?_))
    ·have pO:=fR.mpr pO;have gR:∀t,lo<=t->t<lo+n->kq ky d (ba cQ) t=kq ky d (ba cQ) (lo+n-1):=λt t1 t2=>by
      have a1:=ha 0 (t-lo) (by lia) (by lia);have a2:=ha (t-lo) (n-1) (by lia) (by lia);rw[show lo+0=lo by lia,show lo+(t-lo)=t by lia]at a1;rw[show lo+(t-lo)=t by lia,show lo+(n-1)=lo+n-1 by lia]at a2;exact KeyOrd.kle_antisymm a2 (dg pO a1)
     refine aU (a0S ?_);refine desc _ (B.mir (i:=lo) (j:=lo+n) (az _) (by lia) (by lia)) λi j iw hj=>?_
     show O.kle (kq ky d (nR (ba cQ) lo (lo+n) ((lo+n-lo) / 2)) (lo+j)) (kq ky d (nR (ba cQ) lo (lo+n) ((lo+n-lo) / 2)) (lo+i));rw[L0 (by lia) gR,L0 (by lia) gR];by_cases GD:j<n
     ·rw[gR (lo+i) (by lia) (by lia),gR (lo+j) (by lia) (by lia)];exact eA _
     ·have sC:j=n:=by lia
      subst sC;by_cases lG:i=j
      ·subst lG;exact eA _
      ·rw[gR (lo+i) (by lia) (by lia)];exact cS jN
   ·have e:n=1:=by lia
    refine desc _ B λi j iw hj=>?_
    by_cases lG:i=j
    ·subst lG;exact eA _
    ·have En:lo+i=lo+n-1:=by lia
     have El:lo+j=lo+n:=by lia
     rw[En,El];exact cS jN
  case desc=>
   intro uZ B1 D1;have Gf:=B1.size;refine aU (P1 ?_);refine aU (fT (dH (I:=λx c lR=>∃nE,c=(p4,x,nE)/\SB S κ lz lR lo (lo+iu)/\a3k ky d (ba lR) lo x/\nE+1<=x/\∀t,lo+x-(nE+1)<=t->t<lo+x->kq ky d (ba lR) t=kq ky d (ba lR) (lo+x-1))
    (Q:=λc lR=>∃x nE,c=(p4,x,nE)/\n+1<=x/\x<=iu/\SB S κ lz lR lo (lo+iu)/\a3k ky d (ba lR) lo x/\nE+1<=x/\∀t,lo+x-(nE+1)<=t->t<lo+x->kq ky d (ba lR) t=kq ky d (ba lR) (lo+x-1)) ?dstep ?dfin ⟨0,rfl,B1,D1,by lia,λt t1 t2=>by rw[show t=lo+(n+1)-1 by lia]⟩) ?dpost)
   case dfin=>
    rintro c lR ⟨nE,rfl,B2,D2,q1,q2⟩;rw[show max (n+1) iu=iu by lia]at D2 q1 q2 ⊢;exact⟨iu,nE,rfl,by lia,az _,B2,D2,q1,q2⟩
   case dstep=>
    rintro x c lR yc Dh ⟨nE,rfl,B2,D2,q1,q2⟩;have Cv:=B2.size
    dsimp only
    refine aU (K0 H (d:=d) B2 (by lia) (by lia) (j7 (λlX=>?_) λlX=>?_))
    ·have sX:∀xs:Array bR,(∀k,kq ky d xs k=kq ky d (ba lR) k)->a3k ky d xs lo (x+1):=λxs hk=>pV hk (by lia) D2 (cS lX)
     refine j7 (λuB=>?_) λuB=>?_
     ·refine aU (a0S (bg ⟨0,rfl,B2.mir (i:=lo+x-(nE+1)) (j:=lo+x) (by lia) (by lia) (by lia),sX _ (L0 (by lia) q2),by lia,λt t1 t2=>by rw[show t=lo+(x+1)-1 by lia]⟩))
     ·exact bg ⟨0,rfl,B2,sX _ (λ_=>rfl),by lia,λt t1 t2=>by rw[show t=lo+(x+1)-1 by lia]⟩
    ·have lX:=fR.mpr lX;refine aU (K0 H (d:=d) B2 (by lia) (by lia) (j7 (λmr=>?_) λmr=>?_))
     ·exact bg ⟨x,nE,rfl,yc,by lia,B2,D2,q1,q2⟩
     ·have mr:=fR.mpr mr;have xc:kq ky d (ba lR) (lo+x)=kq ky d (ba lR) (lo+x-1):=KeyOrd.kle_antisymm mr lX;refine bg ⟨nE+1,rfl,B2,pV (λ_=>rfl) (by lia) D2 (by rw[xc];exact eA _),by lia,λt t1 t2=>?_⟩;rw[show lo+(x+1)-1=lo+x by lia];by_cases zQ:t=lo+x
      ·subst zQ;rfl
      ·rw[xc];exact q2 t (by lia) (by lia)
   case dpost=>
    rintro c lR ⟨x,nE,rfl,x1,x2,B2,D2,q1,q2⟩;have Cv:=B2.size
    dsimp only
    refine' a6R (P:=λcode=>∀jJ:dq,SB S κ lz jJ lo (lo+iu)->a3k ky d (ba jJ) lo x->tW (a_ prog w) A E s code Q jJ) _ ?tl λtl=>?mn
    case mn=>
     refine j7 (λuB=>?_) λuB=>?_
     ·refine aU (a0S ?_);refine tl _ (B2.mir (i:=lo+x-(nE+1)) (j:=lo+x) (by lia) (by lia) (by lia)) λi j iw hj=>?_
      show O.kle (kq ky d (nR (ba lR) (lo+x-(nE+1)) (lo+x) ((lo+x-(lo+x-(nE+1))) / 2)) (lo+j)) (kq ky d (nR (ba lR) (lo+x-(nE+1)) (lo+x) ((lo+x-(lo+x-(nE+1))) / 2)) (lo+i));rw[L0 (by lia) q2,L0 (by lia) q2];exact D2 i j iw hj
     ·exact tl _ B2 D2
    case tl=>
     intro jJ B3 D3;have Ge:=B3.size;refine aU (a0S ?_);have B4:=B3.mir (i:=lo) (j:=lo+x) (az _) (by lia) (by lia);have A4:AscTo ky d (ba (setArr jJ (nR (ba jJ) lo (lo+x) ((lo+x-lo) / 2)))) lo x:=λi j iw hj=>by
      show O.kle (kq ky d (nR (ba jJ) lo (lo+x) ((lo+x-lo) / 2)) (lo+i)) (kq ky d (nR (ba jJ) lo (lo+x) ((lo+x-lo) / 2)) (lo+j));rw[a1s (by lia),a1s (by lia),aE (by lia),aE (by lia)];have:=D3 (x-1-j) (x-1-i) (by lia) (by lia);rw[show lo+(x-1-j)=lo+(lo+x)-1-(lo+j) by lia,show lo+(x-1-i)=lo+(lo+x)-1-(lo+i) by lia]at this;exact this
     generalize setArr jJ (nR (ba jJ) lo (lo+x) ((lo+x-lo) / 2))=lC at B4 A4 ⊢;refine aU (fT (dH (I:=λy c cQ=>cQ=lC/\c=(p4,y)/\AscTo ky d (ba lC) lo y)
      (Q:=λc cQ=>cQ=lC/\∃m,c=(p4,m)/\1<=m/\m<=iu/\AscTo ky d (ba lC) lo m) ?bstep ?bfin ⟨rfl,rfl,A4⟩) ?bpost)
     case bfin=>
      rintro c cQ ⟨rfl,rfl,ha⟩;rw[show max x iu=iu by lia]at ha ⊢;exact⟨rfl,iu,rfl,h1,az _,ha⟩
     case bstep=>
      rintro y c cQ Gv Gu ⟨rfl,rfl,ha⟩;have Gd:=B4.size
      dsimp only
      exact aU (K0 H (d:=d) B4 (by lia) (by lia) (j7 (λhb=>bg ⟨rfl,y,rfl,by lia,by lia,ha⟩) λhb=>bg ⟨rfl,rfl,pX (by lia) ha (fR.mpr hb)⟩))
     case bpost=>
      rintro c cQ ⟨rfl,m,rfl,m1,m2,ha⟩;exact bg (q m cQ B4 m1 m2 ha)
def a4F{xs:Array bR}(hs:src<xs.size)(hd:e<=src)(k:Nat) :
  kq ky d (bubble xs src e) k=if k=src-e then kq ky d xs src else if src-e<k/\k<=src then kq ky d xs (k-1) else kq ky d xs k:=by
 have e:=getElem?_bubble hs e hd k
 split
 ·rename_i h1;rw[aE h1]at e;exact W3 e
 ·rename_i h1
  rw[aM h1]at e
  split
  ·rename_i h2;rw[aE h2]at e;exact W3 e
  ·rename_i h2;rw[aM h2]at e;exact W3 e
def a2r(H:CmpS prog w A s κ O ky S){d:O.α}{lz:dq}{lo hi n ok:Nat}(B:SB S κ lz st lo hi)(hn:lo+n<=(ba lz).size)(hh:lo+n<=hi)(hok:ok<=n)(hs:AscTo ky d (ba st) lo ok){Q:Bool->dq->Prop}
  (q:∀cQ,SB S κ lz cQ lo hi->AscTo ky d (ba cQ) lo n->Q rp cQ):tW (a_ prog w) A E s (binarySort' lo n ok) Q st:=by
 rw[binarySort'_eq];refine aU (fT (dH (I:=λk c cQ=>c=(p4,())/\SB S κ lz cQ lo hi/\AscTo ky d (ba cQ) lo (min k n))
  (Q:=λc cQ=>c=(p4,())/\SB S κ lz cQ lo hi/\AscTo ky d (ba cQ) lo n) ?step ?fin ?init) ?post)
 case post=>
  rintro c cQ ⟨rfl,B',ju⟩;exact bg (q cQ B' ju)
 case init=>
  refine⟨rfl,B,λi j iw hj=>?_⟩;by_cases h1:ok=0
  ·have:i=j:=by lia
   subst this;exact eA _
  ·exact hs i j iw (by lia)
 case fin=>
  rintro c cQ ⟨hc,B',ju⟩;refine⟨hc,B',?_⟩
  rwa[show min (max (max ok 1) n) n=n by lia]at ju
 case step=>
  rintro k c cQ GH wV ⟨rfl,B',ju⟩;rw[show min k n=k by lia]at ju;have sz:=B'.size;refine aU (fT (dH (I:=λx c fD=>fD=cQ/\∃l r,c=(p4,l,r)/\l<=r/\r<=k/\r-l<=k-x/\
    (∀i,i<l->O.kle (kq ky d (ba cQ) (lo+i)) (kq ky d (ba cQ) (lo+k)))/\(∀i,r<=i->i<k->O.klt (kq ky d (ba cQ) (lo+k)) (kq ky d (ba cQ) (lo+i))))
   (Q:=λc fD=>fD=cQ/\∃l r,c=(p4,l,r)/\l<=k/\
    (∀i,i<l->O.kle (kq ky d (ba cQ) (lo+i)) (kq ky d (ba cQ) (lo+k)))/\(∀i,l<=i->i<k->O.klt (kq ky d (ba cQ) (lo+k)) (kq ky d (ba cQ) (lo+i)))) ?istep ?ifin ?iinit) ?ipost)
  case iinit=>exact⟨rfl,0,k,rfl,by lia,by lia,by lia,λi hi=>by lia,λi h1 h2=>by lia⟩
  case ifin=>
   rintro c fD ⟨rfl,l,r,rfl,Ea,zw,hm,hlo,uE⟩;have:l=r:=by lia
   subst this;exact⟨rfl,l,l,rfl,zw,hlo,uE⟩
  case istep=>
   rintro x c fD _ Bg ⟨rfl,l,r,rfl,Ea,zw,hm,hlo,uE⟩
   dsimp only
   by_cases vA:l≥r
   ·rw[aE vA];have:l=r:=by lia
    subst this;exact bg ⟨rfl,l,l,rfl,zw,hlo,uE⟩
   ·rw[aM vA];refine aU (K0 H (d:=d) B' (by lia) (by lia) ?_)
    dsimp only
    cases lX:O.blt (kq ky d (ba fD) (lo+k)) (kq ky d (ba fD) (lo+(l+r) / 2)) with
    |true=>
     rw[aE rfl];refine bg ⟨rfl,l,(l+r) / 2,rfl,by lia,by lia,by lia,hlo,λi h1 h2=>?_⟩;exact fC lX (ju _ _ h1 h2)
    |false=>
     simp only[be,cH];refine bg ⟨rfl,(l+r) / 2+1,r,rfl,by lia,by lia,by lia,λi h1=>?_,uE⟩;exact dg (ju i ((l+r) / 2) (by lia) (by lia)) (show O.kle _ _ from lX)
  case ipost=>
   rintro c fD ⟨rfl,l,r,rfl,Gz,hlo,uE⟩;show tW _ _ _ _ (do moveDown' (lo+k) (lo+l);pure (fL (p4,()))) _ _;rw[moveDown'_eq];have lY:lo+k<(ba fD).size:=by lia
   refine aU (mP (bg ⟨rfl,B'.mod (bubble_perm _ _ _) λt ht=>?_,?_⟩))
   ·rw[getElem?_bubble lY _ (by lia),aM (by lia),aM (by lia)]
   rw[show min (k+1) n=k+1 by lia];intro i j iw hj;show O.kle (kq ky d (bubble (ba fD) (lo+k) (lo+k-(lo+l))) (lo+i)) (kq ky d (bubble (ba fD) (lo+k) (lo+k-(lo+l))) (lo+j));rw[a4F lY (by lia),a4F lY (by lia),show lo+k-(lo+k-(lo+l))=lo+l by lia];have nZ:∀a b,lo<=a->a<=b->b<lo+k->O.kle (kq ky d (ba fD) a) (kq ky d (ba fD) b):=λa b h1 h2 h3=>by
    have:=ju (a-lo) (b-lo) (by lia) (by lia)
    rwa[show lo+(a-lo)=a by lia,show lo+(b-lo)=b by lia]at this
   have zS:∀a,lo+l<=a->a<lo+k->O.klt (kq ky d (ba fD) (lo+k)) (kq ky d (ba fD) a):=λa h1 h2=>by
    have:=uE (a-lo) (by lia) (by lia)
    rwa[show lo+(a-lo)=a by lia]at this
   repeat' split
   all_goals first
    | (exfalso;lia)
    |exact eA _
    |exact hlo _ (by lia)
    |exact cS (zS _ (by lia) (by lia))
    |exact nZ _ _ (by lia) (by lia) (by lia)
def Chain(ky:bR->O.α)(arr:Array bR):List (Nat×Nat)->Nat->Nat->Prop
 |[],a,b=>a=b
 | (x,n)::l,a,b=>x=a/\0<n/\UpR ky arr x n/\Chain ky arr l (x+n) b
theorem Chain.len:∀{l:List (Nat×Nat)} {a b:Nat},Chain ky arr l a b->a+l.length<=b
 |[],a,b,h=>by have h:a=b:=h;simp;lia
 | (x,n)::l,a,b,⟨e,h0,_,h⟩=>by have:=h.len;rw[aS];lia
theorem Chain.app{arr:Array bR}{l2:List (Nat×Nat)}:∀{l1:List (Nat×Nat)} {a b:Nat},Chain ky arr (l1++l2) a b↔∃c,Chain ky arr l1 a c/\Chain ky arr l2 c b
 |[],a,b=>⟨λh=>⟨a,rfl,h⟩,λ⟨c,e,h⟩=>by have e:a=c:=e;subst e;exact h⟩
 | (x,n)::l,a,b=>by
  show (x=a/\0<n/\UpR ky arr x n/\Chain ky arr (l++l2) (x+n) b)↔_;rw[Chain.app (l1:=l)];exact⟨λ⟨h1,h2,h3,c,h4,h5⟩=>⟨c,⟨h1,h2,h3,h4⟩,h5⟩,λ⟨c,⟨h1,h2,h3,h4⟩,h5⟩=>⟨h1,h2,h3,c,h4,h5⟩⟩
def UpR.congr{arr mV:Array bR}(h:UpR ky arr x n)(e:∀t,x<=t->t<x+n->mV[t]?=arr[t]?):UpR ky mV x n:=λi j hj iw h1 h2=>by
 have ej:=e j (by lia) h2;have ei:=e i h1 (by lia);rw[bF hj]at ej;rw[bF (show i<mV.size by lia)]at ei;obtain⟨j2,yB⟩:=rX.mp ej.symm;obtain⟨i2,yC⟩:=rX.mp ei.symm;rw[<-yB,<-yC];exact h i j j2 iw h1 h2
theorem Chain.congr{arr mV:Array bR}:∀{l:List (Nat×Nat)} {a b:Nat},Chain ky arr l a b->(∀t,a<=t->t<b->mV[t]?=arr[t]?)->Chain ky mV l a b
 |[],a,b,h,_=>h
 | (x,n)::l,a,b,⟨e,h0,u,h⟩,he=>by
  have hl:=h.len;exact⟨e,h0,u.congr λt t1 t2=>he t (by lia) (by lia),h.congr λt t1 t2=>he t (by lia) t2⟩
def a0n(st:dq):List (Nat×Nat):=(cE st).toList.map λr=>(r.1,r.2.1)
structure RI (S:bR->Prop) (κ:fg) (ky:bR->O.α) (a0:Array bR) (st:dq) (lo:Nat):Prop where
 kind:kindOf st=κ
 fl:fU st=p4
 pm:(ba st).Perm a0
 all:∀i (h:i<(ba st).size),S (ba st)[i]
 ch:Chain ky (ba st) (a0n st) 0 lo
 hlo:lo<=a0.size
theorem RI.size{a0:Array bR}{lo:Nat}(h:RI S κ ky a0 st lo):(ba st).size=a0.size:=by have:=(fE.mp h.pm).length_eq;simpa using this
def a6S{α:Type}{l:List α}(h:i+1<l.length):l=l.take i++l[i]::l[i+1]::l.drop (i+2):=by
 conv=>lhs;rw[<-fF i l]
 rw[dw (show i<l.length by lia),dw h]
def a4G(l1 l2:List α)(a b v:α):((l1++a::b::l2).set l1.length v).eraseIdx (l1.length+1)=l1++v::l2:=by
 induction l1 with
 |nil=>rfl
 |cons x l1 ih=>simp only[bP,aS,ij,List.eraseIdx_cons_succ,ih]
def a6T(p:Array α)(i:Nat)(v:α):((p.setIfInBounds i v).eraseIdxIfInBounds (i+1)).toList=(p.toList.set i v).eraseIdx (i+1):=by
 obtain⟨l⟩:=p;simp
def RI.merge(H:CmpS prog w A s κ O ky S){a0:Array bR}{lo i:Nat}(R:RI S κ ky a0 st lo)(hi:i+1<(cE st).size){Q:Bool->dq->Prop}
  (q:∀cQ,RI S κ ky a0 cQ lo->(∀t,lo<=t->(ba cQ)[t]?=(ba st)[t]?)->(cE cQ).size+1=(cE st).size->Q rp cQ):tW (a_ prog w) A E s (mergeAt' i) Q st:=by
 have hl:i+1<(cE st).toList.length:=by rw[aJ];exact hi
 have sp:=a6S hl;have zc:((cE st).toList.take i).length=i:=by rw[dO];lia
 generalize zN:(cE st).toList.take i=l1 at sp zc;generalize sv:(cE st).toList.drop (i+2)=l2 at sp;obtain⟨⟨sa,na,pw⟩,ea⟩:∃x,x=(cE st).toList[i]:=⟨_,rfl⟩;obtain⟨⟨sb,nb,yP⟩,eb⟩:∃x,x=(cE st).toList[i+1]:=⟨_,rfl⟩;rw[<-ea,<-eb]at sp;have p1:(cE st)[i]?=cz (sa,na,pw):=by rw[bF (by lia),ea,bY]
 have p2:(cE st)[i+1]?=cz (sb,nb,yP):=by rw[bF hi,eb,bY]
 have ch:=R.ch;rw[a0n,sp,aT,Chain.app]at ch;obtain⟨c,c1,e1,yb,u1,e2,yX,u2,c2⟩:=ch
 dsimp only at e1 yb u1 e2 yX u2 c2
 have cl:=c2.len;have GX:=c1.len;have sz:=R.size;have AR:=R.hlo;refine a6Q H R.kind p1 p2 e2 yb yX (by lia) R.all u1 u2 R.fl λcQ k' f' pe F=>q cQ ⟨k'.trans R.kind,f',(fE.mpr F.pm).trans R.pm,λi hi=>?_,?_,AR⟩ (λt ht=>F.out t (by lia)) ?_
 ·have hm:(ba cQ)[i]∈(ba st).toList:=F.pm.mem_iff.mp (kU hi);obtain⟨j,hj,e⟩:=eN.mp hm;rw[<-e,bY];exact R.all j (by simpa using hj)
 ·have e:(cE cQ).toList=l1++(sa,na+nb,pw)::l2:=by
   rw[pe,a6T,sp]
   conv=>lhs;rw[<-zc]
   exact a4G _ _ _ _ _
  rw[a0n,e,aT,Chain.app];refine⟨c,c1.congr λt _ t2=>F.out t (by lia),e1,by dsimp only;lia,?_,?_⟩
  ·dsimp only
   have:=F.up
   rwa[show sb+nb-sa=na+nb by lia]at this
  ·dsimp only
   rw[show sa+(na+nb)=sb+nb by lia];exact c2.congr λt t1 _=>F.out t (by lia)
 ·have:=dG dQ (dG Array.toList pe);rw[a6T,sp]at this;rw[<-zc,a4G]at this;have h2:=dG dQ sp;simp only[aJ,av,aS]at this h2;lia
def RI.pend{a0:Array bR}{lo:Nat}(R:RI S κ ky a0 st lo){p:Array (Nat×Nat×Nat)}(e:p.toList.map (λr=>(r.1,r.2.1))=a0n st):RI S κ ky a0 (setPending st p) lo:=
 ⟨R.kind,R.fl,R.pm,R.all,by show Chain ky (ba st) (p.toList.map _) 0 lo;rw[e];exact R.ch,R.hlo⟩
theorem RI.push{a0:Array bR}{lo n:Nat}(R:RI S κ ky a0 st lo)(n0:0<n)(hn:lo+n<=a0.size)(u:UpR ky (ba st) lo n):RI S κ ky a0 (setPending st ((cE st).push (lo,n,0))) (lo+n):=
 ⟨R.kind,R.fl,R.pm,R.all,by
  show Chain ky (ba st) (((cE st).push (lo,n,0)).toList.map _) 0 (lo+n);rw[cw,aT,Chain.app];exact⟨lo,R.ch,rfl,n0,u,rfl⟩,hn⟩
def RI.sb{a0:Array bR}{lo hi:Nat}(R:RI S κ ky a0 st lo):SB S κ st st lo hi:=⟨R.kind,R.fl,rfl,Hd _,λ_ _=>rfl,R.all⟩
def RI.ofSB{a0:Array bR}{lo hi:Nat}{cQ:dq}(R:RI S κ ky a0 st lo)(B:SB S κ st cQ lo hi):RI S κ ky a0 cQ lo:=
 ⟨B.kind,B.fl,B.pm.trans R.pm,B.all,by
  unfold a0n;rw[B.pn];exact R.ch.congr λt _ t2=>B.out t (.inl t2),R.hlo⟩
def b6E[Decidable c](h1:a+1<n)(h2:b+1<n):(if c then a else b)+1<n:=by split<;>assumption
def a4a(p:Array (Nat×Nat×Nat))(i pw:Nat):(p.modify i λ(x,len,_)=>(x,len,pw)).toList.map (λr=>(r.1,r.2.1))=p.toList.map λr=>(r.1,r.2.1):=by
 apply iE;intro k;rw[aQ,aQ,bh,bh,Array.getElem?_modify]
 split
 ·cases p[k]?<;>rfl
 ·rfl
def a4b(H:CmpS prog w A s κ O ky S)(d:O.α)(R0:RI S κ ky a0 st 0) 
  (q:∀cQ,(ba cQ).Perm a0->fU cQ=p4->UpA ky (ba cQ)->Q () cQ):tW (a_ prog w) A E s sortRuns' Q st:=by
 rw[sortRuns'_eq];refine aU (ny ?_)
 try dsimp only
 simp only[R0.size];refine aU (fT (dH
  (I:=λx c cQ=>∃lo,c=(p4,lo)/\RI S κ ky a0 cQ lo/\x<=lo)
  (Q:=λc cQ=>c=(p4,a0.size)/\RI S κ ky a0 cQ a0.size) ?step ?fin ⟨0,rfl,R0,az _⟩) ?post)
 case fin=>
  rintro c cQ ⟨lo,rfl,R,h⟩;have:=R.hlo;have e:lo=a0.size:=by lia
  subst e;exact⟨rfl,R⟩
 case step=>
  rintro x c cQ _ hx ⟨lo,rfl,R,h⟩
  try dsimp only
  have AR:=R.hlo;by_cases c1:lo≥a0.size
  ·rw[aE c1];have e:lo=a0.size:=by lia
   subst e;exact bg ⟨rfl,R⟩
  rw[aM c1];have sz:=R.size;refine aU (a3Z H (d:=d) R.sb (by lia) (by lia) λm lR B2 m1 m2 A2=>?_)
  try dsimp only
  by_cases c2:m<minRun' a0.size a0.size 0
  case' pos=>
   rw[aE c2];refine aU (P1 ?_);have f1:lo+min (a0.size-lo) (minRun' a0.size a0.size 0)<=a0.size:=by lia
   have f2:m<=min (a0.size-lo) (minRun' a0.size a0.size 0):=by lia
   generalize min (a0.size-lo) (minRun' a0.size a0.size 0)=n at f1 f2 ⊢;refine aU (a2r H (d:=d) B2 (by lia) (by lia) f2 A2 λjJ B3 A3=>?_);simp only[er,be,cH];have n0:0<n:=by lia
   have R3:=R.ofSB B3;have u3:=A3.up
  case' neg=>
   rw[aM c2];obtain⟨n,en⟩:∃n,n=m:=⟨m,rfl⟩;obtain⟨jJ,es⟩:∃jJ,jJ=lR:=⟨lR,rfl⟩;rw[<-en,<-es];have n0:0<n:=by lia
   have f1:lo+n<=a0.size:=by lia
   have R3:RI S κ ky a0 jJ lo:=by rw[es];exact R.ofSB B2
   have u3:UpR ky (ba jJ) lo n:=by rw[es,en];exact A2.up
  all_goals
   refine aU (ny ?_);have fin:∀lC:dq,RI S κ ky a0 lC lo->UpR ky (ba lC) lo n->∃y_,(p4,lo+n)=((p4,y_):Option Unit×Nat)/\RI S κ ky a0 (setPending lC ((cE lC).push (lo,n,0))) y_/\x+1<=y_:=λlC R4 u4=>⟨lo+n,rfl,R4.push n0 f1 u4,by lia⟩
   cases hb:(cE jJ).back? with
   |none=>
    try dsimp only
    exact aU (mP (bg (fin _ R3 u3)))
   |some r=>
    obtain⟨s1,n1,Gg⟩:=r
    try dsimp only
    refine aU (fT (dH (I:=λ_ c lC=>c=(p4,())/\RI S κ ky a0 lC lo/\UpR ky (ba lC) lo n) (Q:=λc lC=>c=(p4,())/\RI S κ ky a0 lC lo/\UpR ky (ba lC) lo n) ?_ (λ_ _ hh=>hh) ⟨rfl,R3,u3⟩) ?_)
    ·rintro y c lC _ _ ⟨rfl,R4,u4⟩
     try dsimp only
     refine aU (ny ?_);by_cases c3:(cE lC).size>1
     ·rw[aE c3,bF (by lia)];generalize (cE lC)[(cE lC).size-2]'(by lia)=r2;obtain⟨s2,n2,v_⟩:=r2
      try dsimp only
      by_cases c4:v_<=power' a0.size (2*s1+n1) (2*s1+n1+n1+n) a0.size
      ·rw[aE c4];exact bg ⟨rfl,R4,u4⟩
      ·rw[aM c4];refine aU (R4.merge H (by lia) λqS R5 o5 _=>?_);simp only[er,be,cH];exact bg ⟨rfl,R5,u4.congr λt t1 _=>o5 t t1⟩
     ·rw[aM c3];exact bg ⟨rfl,R4,u4⟩
    ·rintro c lC ⟨rfl,R4,u4⟩
     try dsimp only
     exact aU (mP (aU (mP (bg (fin _ (R4.pend (a4a _ _ _)) u4)))))
 case post=>
  rintro c cQ ⟨rfl,R⟩
  try dsimp only
  have cl:=R.ch.len;rw[a0n,af,aJ]at cl;refine aU (fT (dH (I:=λx c fD=>c=(p4,())/\RI S κ ky a0 fD a0.size/\(cE fD).size+x<=a0.size) (Q:=λc fD=>c=(p4,())/\RI S κ ky a0 fD a0.size/\(cE fD).size<=1) ?_ ?_ ⟨rfl,R,by lia⟩) ?_)
  ·rintro x c fD _ hx ⟨rfl,R2,h2⟩
   try dsimp only
   refine aU (ny ?_);by_cases c1:(cE fD).size<=1
   ·rw[aE c1];exact bg ⟨rfl,R2,c1⟩
   rw[aM c1];refine aU (R2.merge H (b6E (by lia) (by lia)) λqS R5 _ e5=>?_);simp only[er,be,cH];exact bg ⟨rfl,R5,by lia⟩
  ·rintro c fD ⟨rfl,R2,h2⟩;exact⟨rfl,R2,by lia⟩
  ·rintro c fD ⟨rfl,R2,h2⟩;refine bg (q fD R2.pm R2.fl ?_);have ch:=R2.ch;have sz:=R2.size;unfold a0n at ch;generalize hp:(cE fD).toList=l at ch;have hl:l.length<=1:=by rw[<-hp,aJ];exact h2
   rcases l with _|⟨⟨x,n,pw⟩,_|⟨_,_⟩⟩
   ·have ch:0=a0.size:=ch;intro i j hj iw;lia
   ·obtain⟨e1,_,u,e2⟩:=ch;have e2:x+n=a0.size:=e2;intro i j hj iw;exact u i j hj iw (by dsimp only at e1 ⊢;lia) (by dsimp only at e1 ⊢;lia)
   ·simp at hl
end
end VS
namespace VS
open PyProof.Rows
def b1n{α β:Type}{f:α->β}{l l':List β}(h:l.Perm l'):∀m:List α,l'=m.map f->∃m':List α,m'.Perm m/\l=m'.map f:=by
 induction h with
 |nil=>intro m e;exact⟨m,iG _,e⟩
 |cons x _ ih=>
  intro m e
  match m,e with
  |y::m,e=>
   rw[aB,gu]at e;obtain⟨m',p,e2⟩:=ih m e.2;exact⟨y::m',p.cons y,by rw[aB,e.1,e2]⟩
 |swap x y l=>
  intro m e
  match m,e with
  |a::b::m,e=>
   rw[aB,aB,gu,gu]at e;exact⟨b::a::m,List.Perm.swap a b m,by rw[aB,aB,e.1,e.2.1,e.2.2]⟩
 |trans _ _ zg zf=>
  intro m e;obtain⟨m1,p1,e1⟩:=zf m e;obtain⟨m2,p2,e2⟩:=zg m1 e1;exact⟨m2,p2.trans p1,e2⟩
section
variable {prog:bA}{w:bQ}{A:bN}{E:ai->ao->Prop}{s:ao}{κ:fg}{O:KeyOrd}{key:Nat->O.α}{ks vs:List ai}
noncomputable def b6F(key:Nat->O.α)(ks:List ai)(x:bR):O.α:=
 open Classical in if h : ∃ i, i<ks.length /\ ks.getD i bD = x.1 then key h.choose else key 0
def a5I(cong:∀i j,i<ks.length->j<ks.length->ks.getD i bD=ks.getD j bD->key i=key j){x:bR}(hi:i<ks.length)(e:ks.getD i bD=x.1):b6F key ks x=key i:=by
 have h:∃i,i<ks.length/\ks.getD i bD=x.1:=⟨i,hi,e⟩;unfold b6F;rw[dif_pos h];exact cong _ _ h.choose_spec.1 hi (h.choose_spec.2.trans e.symm)
def b6G(hl:ks.length=vs.length)(jN:∀(i j:Nat) (C:Bool->ao->Prop),i<vs.length->j<vs.length->C (O.blt (key i) (key j)) s->aW (a_ prog w) A (keyLt' κ (ks.getD i bD) (ks.getD j bD)) C (λ_ _=>False) s)
  (cong:∀i j,i<ks.length->j<ks.length->ks.getD i bD=ks.getD j bD->key i=key j) :
  aW (a_ prog w) A ((sortRuns').run (dq.mk' κ (ks.toArray.zip vs.toArray) #[] 7 p4)) (λr s'=>s'=s/\∃p:Array Nat,ba r.2=p.map (mR (ks.toArray.zip vs.toArray))/\fU r.2=p4/\AllN vs.length p/\b1l key p vs.length) E s:=by
 have zs:(ks.toArray.zip vs.toArray).size=vs.length:=by simp[hl]
 have it:∀i,i<vs.length->mR (ks.toArray.zip vs.toArray) i=(ks.getD i bD,vs.getD i bD):=λi hi=>PySem.W.kat_item hl i
 have hz:∀i (h:i<(ks.toArray.zip vs.toArray).size),(ks.toArray.zip vs.toArray)[i]=(ks.getD i bD,vs.getD i bD):=λi h=>by
  rw[<-it i (by lia)];unfold mR;rw[iZ,dif_pos h];rfl
 have H:CmpS prog w A s κ O (b6F key ks) (λx=>∃i,i<vs.length/\x.1=ks.getD i bD):=⟨λx y ⟨i,hi,ei⟩ ⟨j,hj,ej⟩ C hC=>by
  rw[a5I cong (by lia) ei.symm,a5I cong (by lia) ej.symm]at hC;rw[ei,ej];exact jN i j C hi hj hC⟩
 show tW (a_ prog w) A E s sortRuns' (λ_ cQ=>∃p:Array Nat,ba cQ=p.map (mR (ks.toArray.zip vs.toArray))/\fU cQ=p4/\AllN vs.length p/\b1l key p vs.length) (dq.mk' κ (ks.toArray.zip vs.toArray) #[] 7 p4);refine a4b (st:=dq.mk' κ (ks.toArray.zip vs.toArray) #[] 7 p4) H (key 0) (a0:=ks.toArray.zip vs.toArray) ⟨rfl,rfl,Hd _,λi h=>⟨i,?_,?_⟩,rfl,bL _⟩ λcQ pm fl up=>?_
 ·have h':i<(ks.toArray.zip vs.toArray).size:=h;lia
 ·show (ks.toArray.zip vs.toArray)[i].1=_;rw[hz]
 have el:(ks.toArray.zip vs.toArray).toList=(aw vs.length).map (mR (ks.toArray.zip vs.toArray)):=by
  apply iX
  ·rw[aJ,af,bB];exact zs
  intro i h1 h2;rw[bY,dE,nO,hz,it i (by rw[aJ]at h1;lia)]
 obtain⟨p,pp,pe⟩:=b1n (fE.mp pm) _ el;have hp:AllN vs.length p.toArray:=pp;have ea:ba cQ=p.toArray.map (mR (ks.toArray.zip vs.toArray)):=by
  apply Array.toList_inj.mp;rw[FY,pe]
 refine⟨p.toArray,ea,fl,hp,λi j iw hj=>?_⟩;have gK:p.length=vs.length:=by have:=pp.length_eq;rw[bB]at this;exact this
 have sz:(ba cQ).size=vs.length:=by rw[ea,rW,bj];exact gK
 have hk:∀t (ht:t<(ba cQ).size),b6F key ks (ba cQ)[t]=kyP key p.toArray t:=λt ht=>by
  have zq:t<p.length:=by lia
  have hm:p[t]<vs.length:=bu.mp (pp.mem_iff.mp (dh zq));have e1:(ba cQ)[t]=mR (ks.toArray.zip vs.toArray) p[t]:=by
   have:(ba cQ)[t]?=(p.toArray.map (mR (ks.toArray.zip vs.toArray)))[t]?:=by rw[ea]
   rw[bF ht,Array.getElem?_map]at this;simp only[vQ,ab zq,qG,oE]at this;exact this
  rw[e1,it _ hm,a5I cong (i:=p[t]) (by lia) rfl];unfold kyP;simp[iZ,zq]
 have:=up i j (by lia) iw;rw[hk i (by lia),hk j (by lia)]at this;exact this
end
end VS
namespace VS
open PySem.Spec L2
open PyProof.Rows (KeyOrd keyKind' keyLt')
section
variable {prog:bA}{w:bQ}{A:bN}{E:ai->ao->Prop}{sh:ao}{vs:List ai}{κ:fg}{O:KeyOrd}{key:Nat->O.α}
def Kept(h h':cM):Prop:=∀b o,h.get? b=cz o->h'.get? b=cz o
theorem Kept.push(x:Kept h h')(o:gc):Kept h (h'.push o):=λb u e=>aO _ (x b u e)
def Kept.upd(x:Kept h h')(f:gc->gc)(ha:h.objs.size<=a):Kept h (h'.update a f):=λb u e=>by
 rw[m_ _ _ (iA (bx (aY e) ha))];exact x b u e
structure Sortable (prog:bA) (w:bQ) (A:bN) (h0:cM) (ks:List ai) (κ:fg) (O:KeyOrd) (key:Nat->O.α):Prop where
 kind:2<=ks.length->∀(s:ao) (E:ai->ao->Prop) (Q:fg->ao->Prop),Kept h0 s.heap->Q κ s->aW (a_ prog w) A (keyKind' ks.toArray) Q E s
 lt:∀(s:ao) (i j:Nat) (C:Bool->ao->Prop),Kept h0 s.heap->i<ks.length->j<ks.length->C (O.blt (key i) (key j)) s->aW (a_ prog w) A (keyLt' κ (ks.getD i bD) (ks.getD j bD)) C (λ_ _=>False) s
 cong:∀i j,i<ks.length->j<ks.length->ks.getD i bD=ks.getD j bD->key i=key j
def Gives(prog:bA)(w:bQ)(A:bN)(sh:ao)(r:ai)(vs:List ai):Prop:=
 ∀(E:ai->ao->Prop) (Q:List ai->ao->Prop),(∀(h':cM) (tk:Nat),Kept sh.heap h'->sh.heap.objs.size<=h'.objs.size->Q vs {sh with heap:=h',toks:=tk})->aW (a_ prog w) A (collect r) Q E sh
def a8o(hh:A.handled=p4)(h0:(d==fA)=xn)(hm:sh.heap.RawDict d rows ep)(hz:rows.size<=br):Gives prog w A sh (.ref d) (rows.toList.map (·.key)):=λE Q q=>by
 have hd:d<sh.heap.objs.size:=let⟨_,hu,_⟩:=hm;aY hu
 have fin:∀(h':cM) (tk:Nat) (acc:Array ai) (c:Nat),(∀b o,b≠sh.heap.objs.size->(sh.heap.push {cls:=.type "list",data:=.seq ([]:List ai).toArray}).get? b=cz o->h'.get? b=cz o)->
   h'.get? sh.heap.objs.size=cz {cls:=.type "list",dict:=p4,data:=.seq acc c,slots:=#[]}->ItemsOf (λi v=>∃e,rows[i]?=cz e/\v=e.key) acc rows.size->Q acc.toList {sh with heap:=h',toks:=tk}:=by
  intro h' tk acc c hk hS pA;have e:acc.toList=rows.toList.map (·.key):=by
   refine iE λi=>?_
   rw[aQ,bh,bh];by_cases c:i<rows.size
   ·obtain⟨x,hx⟩:∃x,acc[i]?=cz x:=⟨_,bF (by rw[pA.1];exact c)⟩;obtain⟨y,h1,h2⟩:=pA.2 i x hx;rw[hx,h1,h2];rfl
   ·rw[gi (by rw[pA.1];lia),gi (by lia)];rfl
  rw[e];exact q h' tk (λb o x=>hk b o (bO (aY x)) (aO _ x)) (eJ (aY hS))
 unfold collect;refine ae (wpAny_runValue (iM PyProof.Rows.entry_proto_collect' ?_));rw[h_ PySem.F.plain_proto_collect _];show aW _ A.in1 (newList [] >>= λl=>again (.builtin "list.__iadd__" ⟨[l,.ref d],[]⟩)) _ _ sh;refine ae (jd (aA ⟨yR tO _,iM PyProof.Rows.entry_list_iadd' ?_⟩));rw[h_ tO _];show aW _ A.in1 (Builtin.List.listExtendWith (.ref sh.heap.objs.size) (.ref d) (.ref sh.heap.objs.size)) _ _ _;refine dW (W.kdl_extend (A:=A) (s:={sh with heap:=sh.heap.push {cls:=.type "list",data:=.seq ([]:List ai).toArray}})
  (R:=λ(g:xM) (s':ao)=>∃(h':cM) (tk:Nat) (acc:Array ai) (c:Nat),g=.ok (.ret (.ref sh.heap.objs.size))/\s'={sh with heap:=h',toks:=tk}/\
   h'.get? sh.heap.objs.size=cz {cls:=.type "list",dict:=p4,data:=.seq acc c,slots:=#[]}/\Q acc.toList {sh with heap:=h',toks:=tk})
  (b6C (ep:=ep) h0) hh (hm.at λo e=>aO _ e) sh.heap.objs.size (iA hd) (iA hd) (.ref sh.heap.objs.size) 0 (bz _ rfl)
  (λh' tk acc c hk hS pA=>⟨h',tk,acc,c,rfl,rfl,hS,fin h' tk acc c hk hS pA⟩) hz) (λg s' x=>?_) λe s' x=>?_
 ·cases g with
  |done f=>
   obtain⟨h',tk,acc,c,e,rfl,hS,qq⟩:=x;cases e
   show aW _ A (load sh.heap.objs.size >>= _) _ _ _;exact ae (wpAny_load hS (aA qq))
  |again c₁=>
   refine⟨x.1,fX x.2 λg s₂ y=>?_⟩;obtain⟨h',tk,acc,c,rfl,rfl,hS,qq⟩:=y;show aW _ A (load sh.heap.objs.size >>= _) _ _ _;exact ae (wpAny_load hS (aA qq))
 ·obtain⟨_,_,_,_,e',_⟩:=x;cases e'
end
end VS
namespace VS
open PySem.Spec L2
open PyProof.Rows (KeyOrd IntsAre)
def E5:List Int->List Int->Bool
 |[],[]=>xn
 |[],_::_=>rp
 |_::_,[]=>xn
 |a::x,b::y=>if a=b then E5 x y else decide (a<b)
theorem a0T:∀a,E5 a a=xn
 |[]=>rfl
 |a::x=>by rw[E5,aE rfl];exact a0T x
theorem R6:∀a b,E5 a b=xn->E5 b a=xn->a=b
 |[],[],_,_=>rfl
 |[],_::_,h,_=>by cases h
 |_::_,[],_,h=>by cases h
 |a::x,b::y,h1,h2=>by
  rw[E5]at h1 h2;by_cases c:a=b
  ·subst c;rw[aE rfl]at h1 h2;rw[R6 x y h1 h2]
  ·rw[aM c]at h1;rw[aM (λz=>c z.symm)]at h2;have:=jR h1;have:=jR h2;lia
theorem R7:∀a b c,E5 a b=rp->E5 b c=rp->E5 a c=rp
 |[],[],_,h,_=>by cases h
 |[],_::_,[],_,h=>by cases h
 |[],_::_,_::_,_,_=>rfl
 |_::_,[],_,h,_=>by cases h
 |_::_,_::_,[],_,h=>by cases h
 |a::x,b::y,c::z,h1,h2=>by
  rw[E5]at h1 h2 ⊢;by_cases e1:a=b
  ·subst e1;rw[aE rfl]at h1;by_cases e2:a=c
   ·rw[aE e2]at h2 ⊢;exact R7 x y z h1 h2
   ·rw[aM e2]at h2 ⊢;exact h2
  ·rw[aM e1]at h1;have q1:=bG h1;by_cases e2:b=c
   ·subst e2;rw[aM e1];exact h1
   ·rw[aM e2]at h2;have q2:=bG h2;rw[aM (by lia)];exact aV (by lia)
def b1o(h:E5 a b=rp):E5 b a=xn:=by
 cases c:E5 b a with
 |false=>rfl
 |true=>rw[<-a0T a,R7 _ _ _ h c]
def b3J(a b c:List Int)(h:E5 a c=rp):E5 a b=rp\/E5 b c=rp:=by
 cases h1:E5 a b with
 |true=>exact .inl rfl
 |false=>
  refine .inr ?_;cases h2:E5 b a with
  |true=>exact R7 _ _ _ h2 h
  |false=>rw[<-R6 a b h1 h2];exact h
def OI:KeyOrd:=⟨List Int,E5,a0T,R7,b3J,R6⟩
def c1X(kt:Bool)(h:cM)(v:ai)(ns:List Int):Prop:=
 if kt then ∃a o xs m,v=.ref a/\h.get? a=cz o/\o.cls=.type "tuple"/\o.data=.seq xs m/\IntsAre xs.toList ns else ∃n t,v=.int n t/\ns=[n]
end VS
namespace VS
open PySem.Spec L2
open PyProof.Rows (IntsAre)
def b1p(n:List Int):List (List Int)->List (List Int)
 |[]=>[n]
 |m::ms=>if E5 m n then m::b1p n ms else n::m::ms
def a8p:List (List Int)->List (List Int)
 |[]=>[]
 |n::ns=>b1p n (a8p ns)
def leL(a b:List Int):Prop:=E5 b a=xn
def b1q(h1:leL a b)(h2:leL b c):leL a c:=PyProof.Rows.KeyOrd.kle_trans (O:=OI) h1 h2
theorem a1t(n:List Int):∀ms,(b1p n ms).Perm (n::ms)
 |[]=>iG _
 |m::ms=>by
  unfold b1p;by_cases c:E5 m n=rp
  ·rw[aE c];exact ((a1t n ms).cons m).trans (List.Perm.swap n m ms)
  ·rw[aM c]
theorem a1u:∀ns,(a8p ns).Perm ns
 |[]=>iG _
 |n::ns=>(a1t n (a8p ns)).trans ((a1u ns).cons n)
theorem a1U(n:List Int):∀ms:List (List Int),ms.Pairwise leL->(b1p n ms).Pairwise leL
 |[],_=>dI ..
 |m::ms,h=>by
  unfold b1p;obtain⟨h1,h2⟩:=gg.mp h;by_cases c:E5 m n=rp
  ·rw[aE c];refine gg.mpr ⟨λx hx=>?_,a1U n ms h2⟩;rcases aN.mp ((a1t n ms).mem_iff.mp hx) with z|z
   ·rw[z];exact b1o c
   ·exact h1 x z
  ·rw[aM c];have Bu:leL n m:=by simpa[leL]using c
   refine gg.mpr ⟨λx hx=>?_,h⟩;rcases aN.mp hx with z|z
   ·rw[z];exact Bu
   ·exact b1q Bu (h1 x z)
theorem a1V:∀ns:List (List Int),(a8p ns).Pairwise leL
 |[]=>iH
 |n::ns=>a1U n _ (a1V ns)
def b1r{a b:List (List Int)}(hp:a.Perm b)(ha:a.Pairwise leL):a=a8p b:=
 List.Perm.eq_of_pairwise (λx y _ _ h1 h2=>R6 _ _ h2 h1) ha (a1V b) (hp.trans (a1u b).symm)
def kD(kt:Bool)(ns:List Int):D:=if kt then .tuple (ns.map .int) else .int (ns.headD 0)
def b9X(kt:Bool):D->Option (List Int)
 |.int n=>if kt then p4 else cz [n]
 |.tuple ds=>if kt then intsOf ds else p4
 |_=>p4
def a4H(kt:Bool):List D->Option (List (List Int))
 |[]=>cz []
 |d::ds=>(b9X kt d).bind λns=>(a4H kt ds).bind λr=>cz (ns::r)
def b1s(h:b9X kt d=cz ns):d=kD kt ns/\(kt=xn->ns.length=1):=by
 cases d with
 |int n=>
  cases kt with
  |true=>cases h
  |false=>cases h;exact⟨rfl,λ_=>rfl⟩
 |tuple ds=>
  cases kt with
  |false=>cases h
  |true=>
   have h':intsOf ds=cz ns:=h;cases F9 h'
   exact⟨rfl,λz=>by cases z⟩
 |_=>cases h
theorem a0o:∀{ds:List D} {nss:List (List Int)},a4H kt ds=cz nss->ds=nss.map (kD kt)/\(kt=xn->∀ns∈nss,ns.length=1)
 |[],nss,h=>by cases h;exact⟨rfl,λ_ _ z=>(nomatch z)⟩
 |d::ds,nss,h=>by
  obtain⟨ns,h1,h⟩:=bnd (show (b9X kt d).bind _=cz nss from h);obtain⟨r,h2,h3⟩:=bnd h;cases h3
  obtain⟨e1,e2⟩:=b1s h1;obtain⟨e3,e4⟩:=a0o h2;refine⟨by rw[aB,<-e1,<-e3],λz x hx=>?_⟩;rcases aN.mp hx with y|y
  ·rw[y];exact e2 z
  ·exact e4 z x y
def a6U:∀{ns:List Int} {xs:List V},DenAll K H xs (ns.map .int)->xs=ns.map V.int:=by
 intro ns
 induction ns with
 |nil=>intro xs h;exact h.nil_inv
 |cons n ns ih=>
  intro xs h;obtain⟨v,r,rfl,h1,h2⟩:=h.cons_inv;rw[h1.int_inv,ih h2];rfl
section
variable {X:Cx}{pins:List (aC×gc)}{Y:L2.St}{H:Hp}{s:ao}
def b6H(I:Inv X pins Y H s)(h:Den X.K H v (kD kt ns))(r:RelV v u)(h1:kt=xn->ns.length=1):c1X kt s.heap u ns:=by
 cases kt with
 |false=>
  have h':Den X.K H v (.int (ns.headD 0)):=h;rw[h'.int_inv]at r;obtain⟨t,rfl⟩:=r;refine (show ∃n t',gq (ns.headD 0) t=.int n t'/\ns=[n] from⟨_,_,rfl,?_⟩)
  match ns,h1 rfl with
  |[n],_=>rfl
 |true=>
  have h':Den X.K H v (.tuple (ns.map .int)):=h;obtain⟨a,xs,rfl,h2,h3⟩:=h'.tup_inv;cases a6U h3
  cases (show u=bt a from r)
  obtain⟨its,rv,⟨o,ho,hc,n,hd⟩,_⟩:=I.tuple h2;exact (show ∃a' o xs m,bt a=.ref a'/\s.heap.get? a'=cz o/\o.cls=.type "tuple"/\o.data=.seq xs m/\IntsAre xs.toList ns from⟨a,o,its.toArray,n,rfl,ho,hc,hd,by simpa using a4D rv⟩)
def b6I{key:Nat->List Int}{p:Array Nat}(hp:AllN N p)(hu:b1l (O:=OI) key p N):(p.toList.map key).Pairwise leL:=by
 rw[ku];intro i j hi hj iw;rw[af,aJ,hp.size]at hi hj;have z:=hu i j (eJ iw) hj;have e:∀k (hk:k<N),kyP (O:=OI) key p k=(p.toList.map key)[k]'(by rw[af,aJ,hp.size];exact hk):=λk hk=>by
  have sA:k<p.size:=by rw[hp.size];exact hk
  simp only[kyP,dE,bY]
  congr 1;simp[iZ,sA]
 rw[e i hi,e j hj]at z;exact z
def a4c:∀{l:List α} {p:List Nat},p.Perm (aw l.length)->(p.map λi=>l.getD i d).Perm l:=by
 intro l p h;refine (h.map _).trans (List.Perm.of_eq ?_);refine iE λi=>?_
 rw[aQ];by_cases c:i<l.length
 ·rw[eY c,qG,ab c,ah,ab c];rfl
 ·rw[gA (by simpa using c),gA (by simpa using c)];rfl
end
section
variable {X:Cx}{M:List Md}{a:Expr}{fa:EvE}{ca:Cat}{pos p:fV}
def b9Y:D->Option (List D)
 |.dict kvs=>cz (kvs.map (·.1))
 |_=>p4
theorem a1W:∀{kvs:List (D×D)} {es:List (D×V×V)},DenKV K H es kvs->DenAll K H (es.map (·.2.1)) (kvs.map (·.1))
 |[],es,h=>by
  simp only[DenKV]at h;subst h;exact denAll_nil
 | (k,d)::r,es,h=>by
  simp only[DenKV]at h;obtain⟨e,q,rfl,h2,h3,h4,h5⟩:=h;exact denAll_cons h3 (a1W h5)
end
end VS
namespace VS
open PySem.Spec L2
section
variable {K:ag}{H:Hp}{F:List aC}{kt:Bool}{u:Ty}
def b3K(xw:a∈F)(o:HO):Same (cut H F) (cut (upd H a o) F):=λb o' hb=>by
 obtain⟨n1,n2⟩:=m9 hb;exact i7 n1 (by rw[c6 (show b≠a from λz=>n1 (z▸xw))];exact n2)
end
def b9Z:∀{us:List α},us.length=1->∃a,us=[a]
 |[a],_=>⟨a,rfl⟩
def c0a:∀{us:List α},us.length=2->∃a b,us=[a,b]
 |[a,b],_=>⟨a,b,rfl⟩
def c1Y:∀{us:List α},us.length=3->∃a b c,us=[a,b,c]
 |[a,b,c],_=>⟨a,b,c,rfl⟩
def c3A:∀{us:List α},us.length=4->∃a b c d,us=[a,b,c,d]
 |[a,b,c,d],_=>⟨a,b,c,d,rfl⟩
def c3B:∀{us:List α},us.length=5->∃a b c d e,us=[a,b,c,d,e]
 |[a,b,c,d,e],_=>⟨a,b,c,d,e,rfl⟩
def c3C:∀{us:List α},us.length=6->∃a b c d e f,us=[a,b,c,d,e,f]
 |[a,b,c,d,e,f],_=>⟨a,b,c,d,e,f,rfl⟩
end VS
namespace VS
open PySem.Spec L2
open PyProof.Rows (KeyOrd keyKind' keyLt' seqEpoch_at general' ksk_end ksk_tail)
open PySem.W (kat_snds)
section
variable {prog:bA}{w:bQ}{A:bN}{E:ai->ao->Prop}{sh:ao}{vs ks:List ai}{κ:fg}{O:KeyOrd}{key:Nat->O.α}{R:cM->Prop}
structure SortableR (prog:bA) (w:bQ) (A:bN) (R:cM->Prop) (ks:List ai) (κ:fg) (O:KeyOrd) (key:Nat->O.α):Prop where
 kind:2<=ks.length->∀(s:ao) (E:ai->ao->Prop) (Q:fg->ao->Prop),R s.heap->Q κ s->aW (a_ prog w) A (keyKind' ks.toArray) Q E s
 lt:∀(s:ao) (i j:Nat) (C:Bool->ao->Prop),R s.heap->i<ks.length->j<ks.length->C (O.blt (key i) (key j)) s->aW (a_ prog w) A (keyLt' κ (ks.getD i bD) (ks.getD j bD)) C (λ_ _=>False) s
 cong:∀h,R h->∀i j,i<ks.length->j<ks.length->ks.getD i bD=ks.getD j bD->key i=key j
def a1X{a kS:aC}{e e1:Nat}{P:FL->ao->Prop}{st:dq}{out:List ai}(vp:out.length<=br)(lY:ks.length<=br)(Ag:(ba st).map (·.2)=out.toArray)(hf:fU st=p4)(ho:sh.heap.get? a=cz (iK "list" #[] e1))(hk:sh.heap.get? kS=cz (iK "list" ks.toArray e))(i_:kS≠a)
  (q:P (.done (.ret .none)) {sh with heap:=(sh.heap.update kS (dD λ_=>(#[]:Array ai))).update a (dD λ_=>out.toArray)}) :
  aW (a_ prog w) A (ksk_tail a xn e1 (.ref kS) st) P E sh:=by
 have s1:=dX sh.heap kS (dD λ_=>(#[]:Array ai));have A_:(sh.heap.update kS (dD λ_=>(#[]:Array ai))).get? a=cz (iK "list" #[] e1):=(s1.2 a i_.symm).trans ho;unfold ksk_tail
 try dsimp only
 rw[Ag];refine ae (ue hk rfl ?_ (by rw[bj];exact lY) (bL _));refine ae (wpAny_letGo ?_);refine ae (seqEpoch_at A_ rfl ?_);simp only[be,cH];refine ae (ue A_ rfl ?_ (bL _) (by rw[bj];exact oH vp));rw[hf];simp only[bne_self_eq_false,be,cH];exact aA q
def a8q{a kS:aC}{e e1:Nat}{P:FL->ao->Prop}(hl:ks.length=vs.length)(S:SortableR prog w A R ks κ O key)(hR:R sh.heap)(ho:sh.heap.get? a=cz (iK "list" #[] e1))(hk:sh.heap.get? kS=cz (iK "list" ks.toArray e))(i_:kS≠a)(sG:vs.length<65536)
  (q:∀p:Array Nat,AllN vs.length p->b1l key p vs.length->P (.done (.ret .none)) {sh with heap:=(sh.heap.update kS (dD λ_=>(#[]:Array ai))).update a (dD λ_=>(p.toList.map λi=>vs.getD i bD).toArray)}) :
  aW (a_ prog w) A (ksk_end a xn vs.toArray e1 (.ref kS) ks.toArray) P E sh:=by
 have lY:ks.length<=br:=by rw[dB];lia
 have vp:∀p:Array Nat,AllN vs.length p->(p.toList.map λi=>vs.getD i bD).length<=br:=λp hp=>by rw[af,hp.length_eq,bB,dB];lia
 unfold ksk_end
 try dsimp only
 simp only[be,cH];by_cases h2:vs.toArray.size<2
 ·rw[aE h2,aE h2];refine ae (aA ?_);rw[StateT.run_pure];refine ae (aA ?_);have sv:vs.length<2:=by simpa using h2
  have e0:(List.toArray (aw vs.length)).toList.map (λi=>vs.getD i bD)=vs:=by
   match vs,sv with
   |[],_=>rfl
   |[v],_=>rfl
   |_::_::_,h=>simp at h;lia
  have ez:(ba (dq.mk' general' (ks.toArray.zip vs.toArray) #[] 7 p4)).map (·.2)=vs.toArray:=by
   show (ks.toArray.zip vs.toArray).map (·.2)=vs.toArray;simp[List.map_snd_zip,hl]
  dsimp only
  have q0:=q (List.toArray (aw vs.length)) (iG _) λi j a b=>by
   obtain rfl:i=j:=by lia
   exact eA _
  rw[e0]at q0;exact a1X (out:=vs) (by rw[dB];lia) lY ez rfl ho hk i_ q0
 ·rw[aM h2,aM h2];have GC:¬ vs.length<2:=by simpa using h2
  have sv:2<=vs.length:=by lia
  refine ae (S.kind (by lia) sh _ _ hR ?_);refine ae (dW (b6G (key:=key) hl (λi j C hi hj hC=>S.lt sh i j C hR (by lia) (by lia) hC) (S.cong _ hR)) ?_ λ_ _ e=>e);rintro⟨⟨⟩,cQ⟩ s' ⟨rfl,p,Ag,hf,hp,hu⟩
  dsimp only
  exact a1X (vp p hp) lY (kat_snds hl Ag) hf ho hk i_ (q p hp hu)
end
end VS
namespace VS
open PySem.Spec L2
open PyProof.Rows (listItems_at ksk_end ksk_rest ksk_fold)
section
variable {X:Cx}{pins:List (aC×gc)}{Y:L2.St}{k:Nat}{f:aC}{fd:dU}{ps:List bM}{sp:Sp}
def b6J(F:FnOk X.prog X.w X.K X.mg X.base CX0 k f fd ps sp)(hr:Room k X.A.in1.in1)(hb:Binds X.K fd ps [])(I:Inv X pins Y H s)(r:Vals vs us)(h:sp vs H Q E0) :
  aW (a_ X.prog X.w) X.A.in1.in1 (call (.ref f) us) (EP X pins Y Q) (λ_ _=>False) s:=by
 have hl:us.length=ps.length:=by rw[<-r.length];exact F.len _ _ _ _ h
 have yq:=hb s us I.kIn (by rw[aX];exact hl);rw[aX]at yq;refine qd (fX (F.run X.A.in1.in1 X.stack s H ⟨us,[]⟩ us vs Q E0 hr I.env0.in1.in1 yq r h) λr s' hq=>?_);cases r with
 |error e=>exact hq
 |ok fl=>
  cases fl with
  |ret u=>exact I.after hq
  |next=>exact cO hq
  |brk=>exact cO hq
  |cont=>exact cO hq
def SameX(a:aC)(H H':Hp):Prop:=∀b o,b≠a->H b=cz o->H' b=cz o
def SameX.refl(a:aC)(H:Hp):SameX a H H:=λ_ _ _ h=>h
theorem SameX.cut(h:SameX a H H'):Same (cut H [a]) (cut H' [a]):=λb o hb=>by
 obtain⟨n1,n2⟩:=m9 hb;exact i7 n1 (h b o (λz=>n1 (by rw[z];exact aq.mpr rfl)) n2)
def b6K{a kS:aC}{e1:Nat}{xs:List V}{us:List ai}{kd:Nat->D}{P:FL->ao->Prop}{E:ai->ao->Prop}{s:ao}{H:Hp}(I:Inv X pins Y H s)(rv:Vals xs us)(hk:H kS=cz (.lst []))(sG:us.length<65536)
  (turn:∀(i:Nat) (x:V) (u:ai),xs[i]?=cz x->us[i]?=cz u->∀(s':ao) (H':Hp),Inv X pins Y H' s'->SameX kS H H'->(∃kvs,H' kS=cz (.lst kvs))->aW (a_ X.prog X.w) X.A.in1.in1 (call (.ref f) [u]) (EP X pins Y λv H2=>Same H' H2/\Den X.K (cut H2 [kS]) v (kd i)) (λ_ _=>False) s')
  (fin:∀(s':ao) (H':Hp) (kvs:List V) (ks:List ai) (n:Nat),Inv X pins Y H' s'->SameX kS H H'->H' kS=cz (.lst kvs)->Vals kvs ks->kvs.length=us.length->(∀i v,kvs[i]?=cz v->Den X.K (cut H' [kS]) v (kd i))->s'.heap.get? kS=cz (iK "list" ks.toArray n)->
   aW (a_ X.prog X.w) X.A.in1.in1 (ksk_end a xn us.toArray e1 (.ref kS) ks.toArray) P E s') :
  aW (a_ X.prog X.w) X.A.in1.in1 (ksk_rest a (.ref f) xn us.toArray e1 (.ref kS)) P E s:=by
 unfold ksk_rest;refine ae (kX ?_)
 first
  |rw[List.forIn_toArray]
  | (rw[<-gj];simp only[fW])
  |rw[<-gj]
 refine ae (ksk_fold (λj s'=>∃(Hj:Hp) (kvs:List V),Inv X pins Y Hj s'/\SameX kS H Hj/\Hj kS=cz (.lst kvs)/\kvs.length=j/\∀i v,kvs[i]?=cz v->Den X.K (cut Hj [kS]) v (kd i)) us 0 s
  ⟨H,[],I,SameX.refl _ _,hk,rfl,λi v h=>by simp at h⟩ ?step ?done)
 case step=>
  rintro j u s' hu ⟨Hj,kvs,I',sx,lY,hlen,kH⟩;simp only[iz]at hlen ⊢;have hj:j<us.length:=(aD.mp hu).1;obtain⟨x,hx⟩:∃x,xs[j]?=cz x:=⟨_,ab (by rw[rv.length];exact hj)⟩;refine ae (pJ (dW (turn j x u hx hu s' Hj I' sx ⟨kvs,lY⟩) (λkv vW he=>?_) λ_ _ hF=>hF.elim));obtain⟨v,H2,I2,r2,same,den⟩:=he
  try dsimp only
  have uC:H2 kS=cz (.lst kvs):=same _ _ lY;obtain⟨z,its,n,r,hl,e⟩:=I2.lstM uC;refine ae (ue e rfl ?_ (by rw[bj,dB];lia) (cC (Nat.le_of_eq (Array.size_push ..)) (by rw[bj,dB];lia)));have I3:=I2.lset (t':=vW.toks) (f:=(·.push kv)) (its':=its++[kv]) (ys:=kvs++[v]) uC e (by simp) (r.append (.cons r2 .nil)) (by rw[av,bZ,dB];lia);have c2:Same (cut H2 [kS]) (cut (upd H2 kS (.lst (kvs++[v]))) [kS]):=b3K (aq.mpr rfl) _;refine aA ⟨rfl,upd H2 kS (.lst (kvs++[v])),kvs++[v],I3,λb o hb ho=>?_,g8,by rw[av,hlen];rfl,λi w hw=>?_⟩
  ·rw[c6 hb];exact same _ _ (sx b o hb ho)
  ·rcases bK i kvs.length with c|c
   ·rw[cG c]at hw;exact (kH i w hw).up (((SameX.cut λb o _ h=>same _ _ h)).trans c2)
   ·rw[bI c]at hw;have nT:i-kvs.length=0:=by
     have:=(aD.mp hw).1;simp at this;lia
    rw[nT]at hw;have e9:v=w:=by simpa using hw
    have e8:i=j:=by lia
    subst e9;subst e8;exact den.up c2
 case done=>
  rintro s' ⟨Hj,kvs,I',sx,lY,hlen,kH⟩;rw[iz]at hlen;obtain⟨z,its,n,r,hl,e⟩:=I'.lstM lY
  try dsimp only
  refine ae (listItems_at e rfl ?_);exact fin s' Hj kvs its n I' sx lY r hlen kH e
end
end VS
namespace VS
open PySem.Spec L2
section
variable {X:Cx}{pins:List (aC×gc)}{Y:L2.St}{H:Hp}{s:ao}{a:aC}{o:HO}
def b1t(I:Inv X pins Y H s)(hn:H a=p4)(ha:X.s₀.heap.objs.size<=a)(xu:a≠X.env.locals)(rz:∀x c,X.env.cells.lookup x=cz c->c≠a)(sF:∀p∈X.pn++pins,p.1≠a)(new:ObjOk X.prog X.w (upd H a o) s.heap a o):Inv X pins Y (upd H a o) s where
 ok:=I.ok
 os:=I.os
 bare:=I.bare
 base:=⟨I.base.keep,I.base.slot,λb u q n hx=>by rw[c6 (bO (bx (aY q) ha))];exact I.base.free b u q n hx,I.base.there,
  λb xs q=>by rw[c6 (i4 (I.base.tups b xs q) hn)];exact I.base.tups b xs q,
  λb u xs q=>by rw[c6 (i4 (I.base.frzs b u xs q) hn)];exact I.base.frzs b u xs q,
  λb ps q=>by
   obtain⟨more,e⟩:=I.base.tbls b ps q;exact⟨more,by rw[c6 (i4 e hn)];exact e⟩⟩
 loc:=I.loc
 cell:=I.cell
 free:=by rw[c6 (fm xu)];exact I.free
 freeC:=λx c e=>by rw[c6 (rz x c e)];exact I.freeC x c e
 pin:=λp hp=>⟨(I.pin p hp).1,by rw[c6 (sF p hp)];exact (I.pin p hp).2.1,(I.pin p hp).2.2⟩
 hok:=λb u e=>by
  by_cases hb:b=a
  ·subst hb;rw[g8]at e;cases e;exact new
  ·rw[c6 hb]at e;exact (I.hok b u e).stay (λc v _ q=>q) (λc q=>by rw[c6 (i4 q hn)];exact q) λc xs q=>by rw[c6 (i4 q hn)];exact q
 len:=I.len
end
end VS
namespace VS
open PySem.Spec L2
open PyProof.Rows (KeyOrd listItems_at seqEpoch_at ksk_tree ksk_rest ksk_t1 ksk_s1 ksk_l1 kind_sorted plain_sorted entry_sorted slot_list_sort entry_list_sort call_function_entry_kw wpAny_call_entry_kw get?_update_seq)
section
variable {X:Cx}{pins:List (aC×gc)}{Y:L2.St}{f:aC}{O:KeyOrd}{key:Nat->O.α}{κ:fg}{H:Hp}{s:ao}
def a8r{us:List ai}{xs:List V}{kd:Nat->D}(I:Inv X pins Y H s)(hg:Gives X.prog X.w X.A.in1 s r us)(rv:Vals xs us)(sG:us.length<65536)
  (turn:∀(lS:List (aC×gc)) (kS:aC) (i:Nat) (x:V) (u:ai),xs[i]?=cz x->us[i]?=cz u->∀(s':ao) (H':Hp),Inv X lS Y H' s'->Same H H'->H kS=p4->(∃kvs,H' kS=cz (.lst kvs))->aW (a_ X.prog X.w) X.A.in1.in1 (call (.ref f) [u]) (EP X lS Y λv H2=>Same H' H2/\Den X.K (cut H2 [kS]) v (kd i)) (λ_ _=>False) s')
  (srt:∀(lS:List (aC×gc)) (kS:aC) (s':ao) (H':Hp) (kvs:List V) (ks:List ai),Inv X lS Y H' s'->Vals kvs ks->kvs.length=us.length->(∀i v,kvs[i]?=cz v->Den X.K (cut H' [kS]) v (kd i))->H' kS=cz (.lst kvs)->∃R:cM->Prop,SortableR X.prog X.w X.A.in1.in1 R ks κ O key/\R s'.heap)
  (fin:∀(p:Array Nat) (z:aC) (H':Hp),AllN us.length p->b1l key p us.length->Same H H'->H z=p4->H' z=p4->Q (.ref z) (upd H' z (.lst (p.toList.map λi=>xs.getD i .non)))) :
  aW (a_ X.prog X.w) X.A (call (.builtin "sorted") [r] [(cJ "key",.ref f)]) (EP X pins Y Q) X.xe s:=by
 have qQ:xs.length=us.length:=rv.length;have vk:us.length<=br:=by rw[dB];lia
 refine call_function_entry_kw kind_sorted plain_sorted entry_sorted (ksk_s1 _ _) ?_;unfold Builtin.«sorted»;refine ae (m:=checkCount "sorted" 1 1 _) (aA ?_);refine ae (hg _ _ λh1 tk k1 z1=>?_);refine ae (wpAny_newList ?_ vk);have oL:(h1.push (iK "list" us.toArray 0)).get? h1.objs.size=cz (iK "list" us.toArray 0):=bz _ rfl;refine ae (cK (wpAny_call_entry_kw slot_list_sort ⟨_,oL,rfl⟩ entry_list_sort ?body (ksk_l1 _ _)))
 case body=>
  show aW (a_ X.prog X.w) X.A.in1.in1 (Builtin.«list.sort» ⟨[.ref h1.objs.size],[(cJ "key",.ref f)]⟩) _ _ _;rw[ksk_t1];unfold ksk_tree;obtain⟨a,ea⟩:∃a,a=h1.objs.size:=⟨_,rfl⟩;rw[<-ea]at oL ⊢;have ui:s.heap.objs.size<=a:=by rw[ea];exact z1
  obtain⟨c1,o1⟩:∃c1,((h1.push (iK "list" us.toArray 0)).update a (dD λ_=>(#[]:Array ai))).get? a=cz (iK "list" #[] c1):=⟨_,get?_update_seq oL λ_=>#[]⟩;refine ae (listItems_at oL rfl (ae (ue oL rfl ?_ (by rw[bj];exact vk) (bL _))));refine ae (seqEpoch_at o1 rfl (ae (wpAny_newTuple ?_ vk)));refine ae (wpAny_newList ?_ (bL _));refine cK ?_;obtain⟨lg,Aw⟩:∃lg:cM,lg=((h1.push (iK "list" us.toArray 0)).update a (dD λ_=>(#[]:Array ai))).push (iK "tuple" us.toArray 0):=⟨_,rfl⟩;have CY:∀b u,s.heap.get? b=cz u->lg.get? b=cz u:=λb u hb=>by
   rw[Aw];exact (((show Kept s.heap h1 from k1).push _).upd _ ui).push _ b u hb
  have o2:lg.get? a=cz (iK "list" #[] c1):=by rw[Aw];exact aO _ o1
  have xC:H a=p4:=I.hok.fresh ui;have xu:a≠X.env.locals:=iA (bx I.lt ui);have I2:Inv X pins Y H {s with heap:=lg,toks:=tk}:=I.kept CY;have FW:Inv X ((a,iK "list" #[] c1)::pins) Y H {s with heap:=lg,toks:=tk}:=I2.pins_of λp hp=>by
   rcases aN.mp hp with rfl|hp
   ·exact⟨o2,xC,xu,I.nofs ui,λv=>by intro z;cases z⟩
   ·exact I2.pin p (aj _ hp)
  have I3:=FW.lnew (t':=tk) (its:=[]) (ys:=[]) .nil (bL _);have wV:H lg.objs.size=p4:=I2.fresh;show aW (a_ X.prog X.w) X.A.in1.in1 (ksk_rest a (.ref f) xn us.toArray c1 (.ref (cM.objs (cM.push ((h1.push (iK "list" us.toArray 0)).update a (dD λ_=>(#[]:Array ai))) (iK "tuple" us.toArray 0))).size)) _ _ _;rw[<-Aw];refine b6K (X:=X) (a:=a) (f:=f) (kd:=kd) (kS:=lg.objs.size) (H:=upd H lg.objs.size (.lst [])) I3 rv g8 sG (λi x u hx hu s' H' I' sx hk=>turn _ lg.objs.size i x u hx hu s' H' I' (λb o hb=>sx b o (i4 hb wV) (by rw[c6 (i4 hb wV)];exact hb)) wV hk) λs' H' kvs ks n I' sx lY rk hlen kH ek=>?_
  have pa:=I'.pin (a,iK "list" #[] c1) (aj _ aK);have i_:lg.objs.size≠a:=iA (aY o2);obtain⟨R,S,hR⟩:=srt _ lg.objs.size s' H' kvs ks I' rk hlen kH lY;refine a8q (sh:=s') (by rw[<-rk.length];exact hlen) S hR pa.1 ek i_ sG λp hp hu=>⟨_,rfl,?_⟩
  have J1:=I'.lset (t':=s'.toks) (f:=λ_=>(#[]:Array ai)) (its':=[]) (ys:=[]) lY ek rfl .nil (bL _);have J2:Inv X pins Y (upd H' lg.objs.size (.lst [])) {s' with heap:=s'.heap.update lg.objs.size (dD λ_=>(#[]:Array ai)),toks:=s'.toks}:=J1.pins_of λp hp=>J1.pin p (by rcases ay.mp (aj X.pn hp) with z|z;exact ak _ z;exact aj _ (ar _ z))
  have yf:upd H' lg.objs.size (.lst []) a=p4:=by rw[c6 i_.symm];exact pa.2.1
  have Bq:X.s₀.heap.objs.size<=a:=cC I.sz ui;have rz:∀x c,X.env.cells.lookup x=cz c->c≠a:=λx c e z=>by
   obtain⟨v,hv⟩:=I.cell x c e;obtain⟨ob,DF,_⟩:=hv;have this:=aY DF;rw[z]at this;exact dS _ (bx this ui)
  have sF:∀p∈X.pn++pins,p.1≠a:=λp hp z=>by
   have this:=aY (I.pin p hp).1;rw[z]at this;exact dS _ (bx this ui)
  have oa:(s'.heap.update lg.objs.size (dD λ_=>(#[]:Array ai))).get? a=cz (iK "list" #[] c1):=((dX s'.heap lg.objs.size _).2 a i_.symm).trans pa.1;have J3:=J2.turned (it:=a) (t':=s'.toks) (h':=(s'.heap.update lg.objs.size (dD λ_=>(#[]:Array ai))).update a (dD λ_=>(p.toList.map λi=>us.getD i bD).toArray)) (λb o hb ho=>((dX (s'.heap.update lg.objs.size (dD λ_=>(#[]:Array ai))) a _).2 b hb).trans ho) yf xu (.inr Bq) rz sF;obtain⟨c3,o3⟩:∃c3,((s'.heap.update lg.objs.size (dD λ_=>(#[]:Array ai))).update a (dD λ_=>(p.toList.map λi=>us.getD i bD).toArray)).get? a=cz (iK "list" (p.toList.map λi=>us.getD i bD).toArray c3):=⟨_,get?_update_seq oa λ_=>_⟩;have gK:p.toList.length=us.length:=by rw[hp.length_eq,bB]
  have hv:Vals (p.toList.map λi=>xs.getD i .non) (p.toList.map λi=>us.getD i bD):=by
   refine a2y (by rw[af,af]) λi x u g1 g2=>?_
   rw[aQ]at g1 g2;obtain⟨j,j1,rfl⟩:=dN.mp g1;rw[j1]at g2;cases g2
   have hj:j<us.length:=bu.mp (hp.mem_iff.mp (bo j1));have wX:xs[j]?=cz (xs.getD j .non):=by rw[ab (by lia),ah,ab (by lia)];rfl
   obtain⟨u,hu,ru⟩:=rv.get wX;show RelV (xs.getD j .non) (us.getD j bD);rw[ah (l:=us),hu];exact ru
  have J4:=b1t (a:=a) (o:=.lst (p.toList.map λi=>xs.getD i .non)) J3 yf Bq xu rz sF ⟨by rw[af,gK];exact vk,_,c3,hv,o3⟩;refine aA ⟨.ref a,rfl,.ref a,_,J4,rfl,fin p a _ hp hu (λb o hb=>?_) xC yf⟩;have Af:=i4 hb wV;rw[c6 Af];exact sx b o Af (by rw[c6 Af];exact hb)
end
end VS
namespace VS
open PySem.Spec L2
open PySem.W (KatTups)
open PyProof.Rows (tuples')
def kdP(ns:List Int):D:=.tuple [.int ns.length,.tuple (ns.map .int)]
def sqD(l:Bool)(ns:List Int):D:=if l then .list (ns.map .int) else .tuple (ns.map .int)
def kdQ(l:Bool)(ns:List Int):D:=.tuple [.int ns.length,sqD l ns]
def b6L(l:Bool)(ns:List Int):D->Bool
 |.list ds=>l&&decide (intsOf ds=cz ns)
 |.tuple ds=>!l&&decide (intsOf ds=cz ns)
 |_=>xn
def c0b(l:Bool)(ns:List Int):Option D->Bool
 |some (.tuple [.int n,d])=>decide (n=ns.length)&&b6L l ns d
 |_=>xn
def b1u(h:b6L l ns d=rp):d=sqD l ns:=by
 cases d with
 |list ds=>
  have h':(l&&decide (intsOf ds=cz ns))=rp:=h;rw[aL]at h';rw[h'.1,F9 (bG h'.2)];rfl
 |tuple ds=>
  have h':(!l&&decide (intsOf ds=cz ns))=rp:=h;rw[aL,Bool.not_eq_true']at h';rw[h'.1,F9 (bG h'.2)];rfl
 |_=>cases h
def b1v:∀{o:Option D},c0b l ns o=rp->o=cz (kdQ l ns)
 |some (.tuple [.int n,d]),h=>by
  have h':(decide (n=ns.length)&&b6L l ns d)=rp:=h;rw[aL]at h';rw[bG h'.1,b1u h'.2];rfl
def b6M(l:Bool)(ns:List Int):c0b l ns (cz (kdQ l ns))=rp:=by
 show (decide ((ns.length:Int)=ns.length)&&b6L l ns (sqD l ns))=rp;rw[aV rfl,nv];cases l
 ·show (!false&&decide (intsOf (ns.map .int)=cz ns))=rp;rw[a0k,aV rfl];rfl
 ·show (rp&&decide (intsOf (ns.map .int)=cz ns))=rp;rw[a0k,aV rfl];rfl
def b1w(l:Bool)(m:List D->Option D)(nss:List (List Int)):Bool:=decide (nss.length<65536)&&nss.all λns=>c0b l ns (m [sqD l ns])
def b1x(h:b1w l m nss=rp):nss.length<65536/\∀ns∈nss,m [sqD l ns]=cz (kdQ l ns):=by
 unfold b1w at h;rw[aL,dP]at h;exact⟨bG h.1,λns hn=>b1v (h.2 ns hn)⟩
def b6N{nss:List (List Int)}(h:nss.length<65536)(hm:∀ns∈nss,m [sqD l ns]=cz (kdQ l ns)):b1w l m nss=rp:=by
 unfold b1w;rw[aL,dP];exact⟨aV h,λns hn=>by rw[hm ns hn];exact b6M l ns⟩
theorem eqI:∀xs ys:List Int,cy (xs.map aP) (ys.map aP)=decide (xs=ys)
 |[],[]=>by simp[cy]
 |[],_::_=>by simp[cy]
 |_::_,[]=>by simp[cy]
 |x::xs,y::ys=>by
  have:aR (.int x) (.int y)=decide (x=y):=by
   show (x==y)=decide (x=y);exact gB x y
  simp only[aB,cy,this,eqI xs ys,gu];by_cases h1:x=y<;>by_cases h2:xs=ys<;>simp[h1,h2]
theorem c0c:∀ns:List Int,bp (ns.map aP)=rp
 |[]=>by simp only[cX,bp]
 |n::ns=>by simp only[aB,bp,eX,c0c ns,eK]
theorem c1Z:∀ns:List Int,c_ (ns.map aP)=0
 |[]=>by simp only[cX,c_]
 |n::ns=>by simp only[aB,c_,fI,c1Z ns];rfl
def a5J(r:Reads h v (kdQ l ns) as) :
  ∃(a:aC) (o:gc) (vs:Array ai) (m:Nat) (t:Tok) (u:ai) (bs:List aC),v=.ref a/\h.get? a=cz o/\o.cls=.type "tuple"/\o.data=.seq vs m/\vs.toList=[.int ns.length t,u]/\Reads h u (sqD l ns) bs:=by
 unfold kdQ at r;cases r with
 |@tuple a o vs m xs as ho hc hd rs=>
  generalize hv:vs.toList=l at rs;cases rs with
  |cons r1 rs=>
   cases rs with
   |cons r2 rs=>
    cases rs with
    |nil=>
     cases r1 with
     |int i t=>exact⟨a,o,vs,m,t,_,_,rfl,ho,hc,hd,hv,r2⟩
section
variable {prog:bA}{w:bQ}{A:bN}
theorem b8d:∀{ks:List ai} {nss:List (List Int)},ks.length=nss.length->(∀i,i<ks.length->∃as,Reads h (ks.getD i bD) (kdQ l (nss.getD i [])) as)->∃fs,KatTups h ks fs/\fs.length=ks.length/\∀v∈fs,∃n t,v=gq n t
 |[],_,_,_=>⟨[],trivial,rfl,λ_ h=>(nomatch h)⟩
 |v::vs,[],hl,_=>by simp at hl
 |v::vs,ns::nss,hl,hv=>by
  obtain⟨fs,h1,h2,h3⟩:=b8d (ks:=vs) (nss:=nss) (by simpa using hl) λi hi=>by have:=hv (i+1) (by simpa using hi);simpa using this
  obtain⟨as,r⟩:=hv 0 (Nat.zero_lt_succ _);obtain⟨a,o,xs,m,t,u,bs,e,ho,hc,hd,hx,_⟩:=a5J (show Reads h v (kdQ l ns) as from r);have vf:xs[0]?=cz (gq ns.length t):=by rw[<-bh,hx];rfl
  refine⟨gq ns.length t::fs,⟨⟨a,o,xs,m,e,ho,hc,hd,vf⟩,h1⟩,by rw[aS,aS,h2],λy hy=>?_⟩;rcases aN.mp hy with z|z
  ·rw[z];exact⟨_,_,rfl⟩
  ·exact h3 y z
def b6O(h:kdQ l ms=kdQ l ns):ns=ms:=by
 have ii:∀{a b:List Int},a.map aP=b.map aP->b=a:=λ{a b} e=>((List.map_inj_right λx y e=>by cases e;rfl).mp e).symm
 unfold kdQ at h;have h2:=(sT (sT (dt.inj h)).2).1;cases l with
 |true=>exact ii (cA.inj h2)
 |false=>exact ii (dt.inj h2)
theorem a3l:∀a b,E5 a b=HT.lexLt a b
 |[],[]=>rfl
 |[],_::_=>rfl
 |_::_,[]=>rfl
 |_::x,_::y=>by rw[E5,HT.a2G,a3l x y]
theorem a3m:∀{ns:List Int} {vs:List ai} {as:List aC},ji h vs (ns.map aP) as->jk vs ns
 |[],_,_,r=>by cases r;exact .nil
 |n::ns,_,_,r=>by cases r with|cons r1 r2=>cases r1;exact .cons _ _ (a3m r2)
def a9G{h:cM}{v:ai}{ns:List Int}{as:List aC}(r:Reads h v (sqD xn ns) as):∃a its,v=.ref a/\PyProof.Rows.IsTup h a its/\jk its.toList ns:=by
 replace r:Reads h v (.tuple (ns.map .int)) as:=r
 cases r with
 |@tuple a o vs m xs as ho hc hd rs=>exact⟨a,vs,rfl,⟨o,ho,hc,m,hd⟩,a3m rs⟩
def a4d{ks:List ai}{nss:List (List Int)}(hl:ks.length=nss.length)(hu:A.units+8<dF) :
  SortableR prog w A (λh=>∀i,i<ks.length->∃as,Reads h (ks.getD i bD) (kdQ xn (nss.getD i [])) as) ks (tuples' rp) OI (λi=>(((nss.getD i []).length:Nat):Int)::nss.getD i []) where
 kind:=λh2 s E Q hR q=>by
  obtain⟨fs,h1,ox,h3⟩:=b8d hl hR;refine W.kat_kind (T:=lr "int") h1 (by lia) (λv Dq=>?_) rfl q;obtain⟨n,t,rfl⟩:=h3 v Dq;exact λA Q E s _ q=>aA q
 cong:=λh hR i j hi hj e=>by
  obtain⟨as,ri⟩:=hR i hi;obtain⟨bs,rj⟩:=hR j hj;rw[<-e]at rj;have z:=(PyProof.Rows.reads_det (λ_ _ e _=>e) ri rj).1;have:nss.getD i []=nss.getD j []:=b6O z;exact dG (λns:List Int=>(((ns.length:Nat):Int)::ns:List Int)) this
 lt:=λs i j C hR hi hj q=>by
  obtain⟨as,ri⟩:=hR i hi;obtain⟨bs,rj⟩:=hR j hj;obtain⟨a,o,xs,k,t,u,us,e1,ho,_,hd,hx,ru⟩:=a5J ri;obtain⟨a',o',ys,k',t',u',Gb,e2,oO,_,jO,hy,yN⟩:=a5J rj;rw[e1,e2];refine W.kat_lt ho hd oO jO ?_;have q':C (E5 ((((nss.getD i []).length:Nat):Int)::nss.getD i []) ((((nss.getD j []).length:Nat):Int)::nss.getD j [])) s:=q;generalize nss.getD i []=ns at q' hx ru;generalize nss.getD j []=ms at q' hy yN;rw[hx,hy,dJ,dJ,nM];have hz:decide (xs.size<ys.size)=xn:=by
   have z1:=dG dQ hx;have z2:=dG dQ hy;rw[aJ]at z1 z2;simp only[aS,eS]at z1 z2;exact aZ (by lia)
  rw[hz];rw[E5]at q';refine W.kat_cons (wpAny_eqBool_int ?_);have lay:∀ns:List Int,(sqD xn ns).canLay0=rp:=λns=>by simp only[sqD,cH,be,eX];exact c0c ns
  have GW:(sqD xn ns).depth<=1:=by simp only[sqD,cH,be,fI,c1Z];lia
  by_cases c:((ns.length:Nat):Int)=((ms.length:Nat):Int)
  ·rw[aE c]at q';rw[show (((ns.length:Nat):Int)==((ms.length:Nat):Int))=rp by simp[c]];refine W.kat_yes (W.kat_cons (sN _ _ A s _ _ _ _ ru yN (lay ns) (lay ms) (by have:=lZ (sqD xn ns).depth (sqD xn ms).depth;lia) _ _ _ _ ?_));have ee:aR (sqD xn ns) (sqD xn ms)=decide (ns=ms):=by simp only[sqD,cH,be,aR];exact eqI ns ms
   rw[ee];by_cases c2:ns=ms
   ·rw[aV c2];refine W.kat_yes (W.kat_nil ?_);rw[c2,a0T]at q';exact q'
   ·rw[aZ c2];refine W.kat_no ?_;refine W.kat_one _ _ ?_;obtain⟨_,_,z1,p1,i1⟩:=a9G ru;obtain⟨_,_,z2,p2,i2⟩:=a9G yN;rw[z1,z2];exact HT.a7K p1 p2 i1 i2 (by lia) (by rw[<-a3l];exact q')
  ·rw[aM c]at q';rw[show (((ns.length:Nat):Int)==((ms.length:Nat):Int))=xn by simp[c]];exact W.kat_no (PyProof.Rows.oneLt_int q')
end
end VS
namespace VS
open PySem.Spec L2
def a1v(ns:List Int):List Int:=((ns.length:Nat):Int)::ns
def P3(nss:List (List Int)):List (List Int):=(a8p (nss.map a1v)).map tQ
def b3L{nss:List (List Int)}(hp:AllN nss.length p)(hu:b1l (O:=OI) (λi=>(((nss.getD i []).length:Nat):Int)::nss.getD i []) p nss.length):p.toList.map (λi=>nss.getD i [])=P3 nss:=by
 unfold P3;have e:p.toList.map (λi=>(((nss.getD i []).length:Nat):Int)::nss.getD i [])=a8p (nss.map a1v):=by
  refine b1r ?_ (b6I hp hu);have h:=(a4c (d:=([]:List Int)) (l:=nss) hp).map a1v;rw[bC]at h;exact h
 rw[<-e,bC];rfl
section
variable {X:Cx}{pins:List (aC×gc)}{Y:L2.St}{H:Hp}{s:ao}{k:Nat}{f:aC}{fd:dU}{ps:List bM}{m:List D->Option D}
def b1y{nss:List (List Int)}(F:FnOk X.prog X.w X.K X.mg X.base CX0 k f fd ps (spD X.K 1 m .i))(hr:Room k X.A.in1.in1)(hb:Binds X.K fd ps [])(I:Inv X pins Y H s)(hg:Gives X.prog X.w X.A.in1 s r us)(rv:Vals xs us)(hd:DenAll X.K H xs (nss.map λns=>.tuple (ns.map .int)))
  (sG:nss.length<65536) (hm:∀ns∈nss,m [.tuple (ns.map .int)]=cz (kdP ns)) (q:∀z out H',Same H H'->H z=p4->H' z=p4->DenAll X.K H' out ((P3 nss).map λns=>.tuple (ns.map .int))->Q (.ref z) (upd H' z (.lst out))) :
  aW (a_ X.prog X.w) X.A (call (.builtin "sorted") [r] [(cJ "key",.ref f)]) (EP X pins Y Q) X.xe s:=by
 have qQ:xs.length=nss.length:=by rw[hd.length,af]
 have Bj:us.length=nss.length:=by rw[<-rv.length];exact qQ
 have tD:∀i x,xs[i]?=cz x->i<nss.length/\Den X.K H x (.tuple ((nss.getD i []).map .int)):=λi x hx=>by
  have hi:i<nss.length:=by rw[<-qQ];exact (aD.mp hx).1
  have e1:(nss.map λns=>dt (ns.map .int))[i]?=cz (.tuple ((nss.getD i []).map .int)):=by rw[aQ,ab hi,ah,ab hi];rfl
  obtain⟨v,hv,dv⟩:=hd.get e1;rw[hx]at hv;cases hv
  exact⟨hi,dv⟩
 have iN:∀i,i<nss.length->nss.getD i []∈nss:=λi hi=>by rw[ah,ab hi];exact dh hi
 have zR:∀ns:List Int,imm (kdP ns)=rp:=λns=>by unfold kdP;simp only[imm,c7,gy,nv];exact b9U ns
 have wU:∀ns:List Int,(kdP ns).canLay0=rp:=λns=>by unfold kdP;simp only[eX,bp,gy,nv];exact c0c ns
 refine a8r (f:=f) (O:=OI) (κ:=PyProof.Rows.tuples' rp) (key:=λi=>(((nss.getD i []).length:Nat):Int)::nss.getD i []) (kd:=λi=>kdP (nss.getD i [])) I hg rv (by lia) (λlS kS i x u hx hu s' H' I' same _ hk=>?_) (λlS kS s' H' kvs ks I' rk hlen kH lY=>?_) λp z H' hp hu same hz nq=>?_
 ·obtain⟨hi,dx⟩:=tD i x hx;obtain⟨u',rY,ru⟩:=rv.get hx;rw[hu]at rY;cases rY
  refine b6J F hr hb I' (.cons ru .nil) ⟨[.tuple ((nss.getD i []).map .int)],kdP (nss.getD i []),rfl,denAll_cons (dx.up same) denAll_nil,hm _ (iN i hi),λv H2 fp e o nd fr=>⟨e,(o.den _).imm_out (F:=[kS]) (λb hb=>by obtain⟨kvs,hk⟩:=hk;rw[aq.mp hb];exact⟨⟨.lst kvs,trivial⟩,e _ _ hk⟩) _ (zR _)⟩⟩
 ·have Eh:ks.length=nss.length:=by rw[<-rk.length,hlen];exact Bj
  refine⟨_,a4d (nss:=nss) Eh (by have:=hr.un;lia),λi hi=>?_⟩;obtain⟨v,hv⟩:∃v,kvs[i]?=cz v:=⟨_,ab (by rw[rk.length];exact hi)⟩;obtain⟨u,hu,ru⟩:=rk.get hv;rw[ah,hu];exact Den.reads I' _ (wU _) ((kH i v hv).up j6) ru
 ·rw[Bj]at hp hu;refine q z _ H' same hz nq ?_;rw[<-b3L hp hu,bC];have:∀l:List Nat,(∀j∈l,j<nss.length)->DenAll X.K H' (l.map λi=>xs.getD i .non) (l.map ((λns=>dt (ns.map .int)) ∘ λi=>nss.getD i [])):=by
   intro l
   induction l with
   |nil=>intro _;exact denAll_nil
   |cons j l ih=>
    intro hj;have qB:=hj j aK;have wX:xs[j]?=cz (xs.getD j .non):=by rw[ab (by lia),ah,ab (by lia)];rfl
    exact denAll_cons ((tD j _ wX).2.up same) (ih λk hk=>hj k (ar _ hk))
  exact this _ λj hj=>bu.mp (hp.mem_iff.mp hj)
def a8s{nss:List (List Int)}(hc:X.calm=rp)(F:FnOk X.prog X.w X.K X.mg X.base CX0 k f fd ps (spD X.K 1 m .i))(hr:Room k X.A.in1.in1)(hb:Binds X.K fd ps [])(I:Inv X pins Y H s)(hH:H p=cz (f9 p es))(hd:DenAll X.K H (es.map (·.2.1)) (nss.map λns=>.tuple (ns.map .int)))
  (sG:nss.length<65536) (hm:∀ns∈nss,m [.tuple (ns.map .int)]=cz (kdP ns)) (q:∀z out H',Same H H'->H z=p4->H' z=p4->DenAll X.K H' out ((P3 nss).map λns=>.tuple (ns.map .int))->Q (.ref z) (upd H' z (.lst out))) :
  aW (a_ X.prog X.w) X.A (call (.builtin "sorted") [.ref p] [(cJ "key",.ref f)]) (EP X pins Y Q) X.xe s:=by
 obtain⟨h0,hl,hn,o,ents,ep,g1,g2,g3,g4⟩:=v6 I hH;refine b1y F hr hb I (a8o (by simpa using I.ok.hd hc) h0 ⟨o,g1,g2,g3⟩ (by have z:=gQ g4;have z2:ents.toList.length=ents.size:=aJ;lia)) ?_ hd sG hm q;have:∀{es:List (D×V×V)} {l:List iS},gr Z4 es l->Vals (es.map (·.2.1)) (l.map (·.key)):=by
  intro es l h
  induction h with
  |nil=>exact .nil
  |cons r _ ih=>exact .cons r.2.1 ih
 exact this g4
end
def a8t(ns:List Int):D:=.tuple (ns.map .int)
def a0p(m:List D->Option D)(a:EvE):EvE:=λU=>(a U).bind λd=>(b9Y d).bind λks=>(a4H rp ks).bind λnss=>if b1w xn m nss then cz (.list ((P3 nss).map a8t)) else p4
section
variable {X:Cx}{M:List Md}{a:Expr}{fa:EvE}{ca:Cat}{pos p py mi:fV}{y:bM}{k:Nat}{ps:List bM}{m:List D->Option D}{ta:TE}
def c0d(X:Cx)(m:List D->Option D)(ta:TE):TE:=λY H Q=>a6n ta b2t Y H λxs H1=>∃pd es nss,xs=[V.ref pd]/\H1 pd=cz (f9 pd es)/\DenAll X.K H1 (es.map (·.2.1)) (nss.map a8t)/\nss.length<65536/\(∀ns∈nss,m [a8t ns]=cz (kdP ns))/\∀z out H',Same H1 H'->H1 z=p4->H' z=p4->DenAll X.K H' out ((P3 nss).map a8t)->Q (.ref z) (upd H' z (.lst out))
def b3M(hc:X.calm=rp)(zI:X.mg "sorted"=p4)(W:Has X.prog X.w X.K X.mg X.base y k ps (spD X.K 1 m .i))(hr:Room (k+2) X.A)(ha:PE X a ta)(hg:Gl X "sorted":=by rfl)(xa:Gl X y:=by rfl)(xg:(y==("__debug__":bM))=xn:=by decide)
  (he:au [a] X.env=(xn,cI a X.env)::au [] X.env:=by rfl) (pR:cD pos (au [a] X.env)=(xn,cI a X.env)::cD pos (au [] X.env):=by rfl) (eB:(cD pos (au [a] X.env)).any (·.1)=xn:=by rfl)
  (gR:(eV pos (dC [⟨cz (cJ "key"),.Name y py,mi⟩] X.env)).all (·.1.isSome)=rp:=by rfl) (zO:(eV pos (dC [⟨cz (cJ "key"),.Name y py,mi⟩] X.env)).any (·.1.isNone)=xn:=by rfl)
  (lY:(eV pos (dC [⟨cz (cJ "key"),.Name y py,mi⟩] X.env)).filterMap (·.1)=[cJ "key"]:=by rfl) :
  PE X (.Call (.Name "sorted" p) [a] [⟨cz (cJ "key"),.Name y py,mi⟩] pos) (c0d X m ta):=by
 obtain⟨f,fd,F,b,kp,DQ⟩:=W.ex;intro pins s Y H Q I h;refine gG (a0g I hg zI PyProof.Rows.Boot.«sorted» ?_ (by decide) (by decide));have hA:PA X [a] (a6n ta b2t):=k6 ha n8 he;have hK:PK X [⟨cz (cJ "key"),.Name y py,mi⟩] (a6n (tC (.ref f)) b2t):=b5I (a9l xa DQ rfl xg) b8U;refine PyProof.Rows.callWith_kw (L2.thn (hA pos pins s Y H _ I h) λus s1 qz=>?_) pR eB gR zO;obtain⟨xs,H1,I1,r1,pd,es,nss,e0,hH,hd,sG,hm,q⟩:=qz;subst e0;refine L2.thn (hK pos pins s1 Y H1 (λzs H2=>zs=[.ref f]/\H2=H1) I1 ⟨rfl,rfl⟩) λws s2 qz=>?_
 obtain⟨zs,H2,I2,r2,ez,eH⟩:=qz;subst ez;subst eH;rw[lY];obtain⟨u,rfl,ru⟩:=r1.one;obtain⟨w,rfl,vX⟩:=r2.one;cases (show u=bt pd from ru)
 cases (show w=bt f from vX)
 exact a8s hc F hr.in1.in1 b I2 hH hd sG hm q
def a6V(hc:X.calm=rp)(zI:X.mg "sorted"=p4)(W:Has X.prog X.w X.K X.mg X.base y k ps (spD X.K 1 m .i))(hr:Room (k+2) X.A)(ha:PX X M a fa ca)(hg:Gl X "sorted":=by rfl)(xa:Gl X y:=by rfl)(xg:(y==("__debug__":bM))=xn:=by decide)
  (he:au [a] X.env=(xn,cI a X.env)::au [] X.env:=by rfl) (pR:cD pos (au [a] X.env)=(xn,cI a X.env)::cD pos (au [] X.env):=by rfl) (eB:(cD pos (au [a] X.env)).any (·.1)=xn:=by rfl)
  (gR:(eV pos (dC [⟨cz (cJ "key"),.Name y py,mi⟩] X.env)).all (·.1.isSome)=rp:=by rfl) (zO:(eV pos (dC [⟨cz (cJ "key"),.Name y py,mi⟩] X.env)).any (·.1.isNone)=xn:=by rfl)
  (lY:(eV pos (dC [⟨cz (cJ "key"),.Name y py,mi⟩] X.env)).filterMap (·.1)=[cJ "key"]:=by rfl) :
  PX X M (.Call (.Name "sorted" p) [a] [⟨cz (cJ "key"),.Name y py,mi⟩] pos) (a0p m fa) (.new (.l .i)):=by
 obtain⟨ta,pa,qa⟩:=ha.out;refine .mk ⟨_,b3M hc zI W hr pa hg xa xg he pR eB gR zO lY,λU Y H P F d Q S hf q=>?_⟩;obtain⟨x,h1,g1⟩:=bnd hf;obtain⟨ks,h2,g2⟩:=bnd g1;obtain⟨nss,h3,g3⟩:=bnd g2;obtain⟨e1,_⟩:=a0o h3;by_cases c:b1w xn m nss=rp
 ·rw[aE c]at g3;have c:nss.length<65536/\∀ns∈nss,m [a8t ns]=cz (kdP ns):=b1x c;cases g3
  cases x with
  |dict kvs=>
   cases h2
   refine qa U Y H P F _ _ S h1 λv H1 w1 r1=>?_
   obtain⟨pp,es,rfl,k1,k2⟩:=r1.den.dict_inv;refine⟨pp,es,nss,rfl,k1,?_,c.1,c.2,λz out H' same hz nq ho=>q _ _ ((w1.trans same).trans (j8 nq _)) ?_⟩
   ·have hk:=a1W k2;rw[e1]at hk;exact hk
   ·have hi:∀l:List (List Int),c7 (l.map a8t)=rp:=λl=>by
     induction l with
     |nil=>simp only[cX,c7]
     |cons ns l ih=>simp only[aB,c7,ih,gy,a8t,imm];exact b9U ns
    exact X7 ho (hi _) (w1.trans same) nq (S.lst' (w1.trans same))
  |_=>cases h2
 ·rw[aM c]at g3;cases g3
end
section
variable {X:Cx}{M:List Md}{a b:Expr}{rest:List Expr}{fa fb:EvE}{u:Ty}{pos:fV}{ta tb:TE}
def c0e(ha:PE X a ta)(hb:PE X (.BoolOp .Or (b::rest) pos) tb):PE X (.BoolOp .Or (a::b::rest) pos) (λY H Q=>ta Y H λx H1=>∃k,b5F X.K x H1 k/\if k=rp then Q x H1 else tb Y H1 Q):=by
 intro pins s Y H Q I h;refine PyProof.Rows.BoolOp_or (L2.thn (ha pins s Y H _ I h) λv s1 qz=>?_);obtain⟨x,H1,I1,r1,k,hk,q1⟩:=qz;refine L2.thn (b2r pins s1 Y H1 x v (λc H2=>c=k/\H2=H1) I1 r1 ⟨k,hk,rfl,rfl⟩) λc s2 qz=>?_
 obtain⟨H2,I2,ec,eH⟩:=qz;subst ec;subst eH;cases c with
 |true=>exact⟨x,H2,I2,r1,q1⟩
 |false=>exact hb pins s2 Y H2 Q I2 q1
def b6P(fa fb:EvE):EvE:=λU=>(fa U).bind λd=>(tr d).bind λk=>if k then cz d else fb U
def c0f(ha:PX X M a fa (.new u))(hb:PX X M (.BoolOp .Or (b::rest) pos) fb (.new u)):PX X M (.BoolOp .Or (a::b::rest) pos) (b6P fa fb) (.new u):=by
 obtain⟨ta,pa,qa⟩:=ha.out;obtain⟨tb,pb,qb⟩:=hb.out;refine .mk ⟨_,c0e pa pb,λU Y H P F d Q S hf q=>?_⟩;obtain⟨x,h1,hf⟩:=bnd hf;obtain⟨k,h2,hf⟩:=bnd hf;refine qa U Y H P F _ _ S h1 λv H1 e1 r1=>⟨k,b2K r1.den h2,?_⟩
 cases k with
 |true=>
  have rm:d=x:=(aF hf).symm;subst rm;exact a6r (q _ H1 e1 r1)
 |false=>exact a6q (qb U Y H1 P F d Q (S.grow e1) hf λw H2 e2 r2=>q w H2 (e1.trans e2) (r2.early e1))
end
def a6W(F:List aC)(H H2:Hp):Hp:=λa=>if a∈F then H a else H2 a
def a0U(h:a∈F):a6W F H H2 a=H a:=aE h
def o8(h:a∉F):a6W F H H2 a=H2 a:=aM h
def c0g(sp:Sp):Sp:=λvs H Q E=>∃F:List aC,(∀a∈F,∃ys:MuO,H a=cz ys.1)/\sp vs (cut H F) (λv H2=>(∀a∈F,H2 a=p4)->Q v (a6W F H H2)) E
section
variable {P:bA}{w:bQ}{K:ag}{mg:bM->Option ai}{base:cM}{k:Nat}{f:aC}{fd:dU}{ps:List bM}{sp:Sp}{H:Hp}{h:cM}{F:List aC}
def a1w(hF:∀a∈F,∃ys:MuO,H a=cz ys.1)(e:H b=cz o)(n:¬ Mu o):b∉F:=λz=>by
 obtain⟨ys,hy⟩:=hF b z;rw[e]at hy;cases hy
 exact n ys.2
def c0h(h:Pin a o):¬ Mu o:=by cases o<;>first|exact λz=>z|exact λ_=>h
def b6Q(hk:HOk P w H h)(hF:∀a∈F,∃ys:MuO,H a=cz ys.1):HOk P w (cut H F) h:=λa o e=>by
 obtain⟨_,e'⟩:=m9 e;exact (hk a o e').stay (λb u _ q=>q) (λb q=>i7 (a1w hF q (λz=>z)) q) λb xs q=>i7 (a1w hF q (c0h xs.2)) q
def x4(n:H a=p4):cut H F a=p4:=by
 by_cases q:a∈F
 ·exact V5 q
 ·rw[X6 q];exact n
def a8u(F0:FnOk P w K mg base CX0 k f fd ps sp):FnOk P w K mg base CX0 k f fd ps (c0g sp) where
 len:=λvs H Q E ⟨F,_,hs⟩=>F0.len _ _ _ _ hs
 run:=λA outer s H args us vs Q E hr he hb hv ⟨F,hF,hs⟩=>by
  have mw:Env0 P w K mg base A outer s (cut H F):=⟨he.frames,he.mod,λb o e=>⟨(he.bs b o e).1,x4 (he.bs b o e).2⟩,he.bsz,he.funs,λb hb=>x4 (he.frf b hb),b6Q he.hok hF,he.bare,λx hx p e=>let⟨qs,t,e1,e2⟩:=he.tabs x hx p e;⟨qs,t,i7 (a1w hF e1 (λz=>z)) e1,e2⟩⟩;refine fX (F0.run A outer s (cut H F) args us vs _ E hr mw hb hv hs) λr s' hq=>?_
  cases r with
  |error e=>exact hq
  |ok fl=>
   cases fl with
   |ret u=>
    obtain⟨v,H2,os,bare,un,qw,rv,q⟩:=(show CE outer P w (cut H F) s _ u s' from hq);have there:∀a∈F,∃o,s.heap.get? a=cz o:=λa ha=>by
     obtain⟨⟨ys,hm⟩,hy⟩:=hF a ha;have:=he.hok a _ hy;cases ys with
     |lst xs=>obtain⟨_,its,n,r,e⟩:=this;exact⟨_,e⟩
     |dK kvs=>obtain⟨_,_,vs,_,ob,es,ep,e,_⟩:=this;exact⟨_,e⟩
     |ext φ=>obtain⟨_,e,_⟩:=this;exact e
     |_=>exact cO hm
    have BM:∀a∈F,H2 a=p4:=λa ha=>by
     obtain⟨o,ho⟩:=there a ha;exact un.free a o ho (V5 ha) (by simp)
    have DM:∀{b:aC},H b=p4->b∉F:=λ{b} n z=>by
     obtain⟨ys,hy⟩:=hF b z;rw[n]at hy;cases hy
    refine (show CE outer P w H s Q u s' from⟨v,a6W F H H2,os,bare,?_,?_,rv,q BM⟩)
    ·refine⟨λb o q n hb hx=>un.keep b o q (x4 n) hb hx,λb o q n hb hx=>un.slot b o q (x4 n) hb hx,λb o q n hx=>?_,un.there,λb xs q=>?_,λb o u q=>?_,λb ps q=>?_⟩
     ·rw[o8 (DM n)];exact un.free b o q (x4 n) hx
     ·have n:=a1w hF q (λz=>z);rw[o8 n];exact un.tups b xs (i7 n q)
     ·have n:=a1w hF q (λz=>z);rw[o8 n];exact un.frzs b o u (i7 n q)
     ·have n:=a1w hF q (λz=>z);rw[o8 n];exact un.tbls b ps (i7 n q)
    ·intro a o e;by_cases ha:a∈F
     ·rw[a0U ha]at e;have hk:∀u,s.heap.get? a=cz u->s'.heap.get? a=cz u:=λu q=>un.keep a u q (V5 ha) (λz=>by rw[he.frf a z]at e;cases e) (by simp)
      obtain⟨⟨ys,hm⟩,hy⟩:=hF a ha;have ho:=he.hok a _ hy;have eo:o=ys:=aF (e.symm.trans hy);rw[eo];cases ys with
      |lst xs=>obtain⟨z,its,n,r,e⟩:=ho;exact⟨z,its,n,r,hk _ e⟩
      |dK kvs=>obtain⟨z,y,vs,r,ob,es,ep,e,c⟩:=ho;exact⟨z,y,vs,r,ob,es,ep,hk _ e,c⟩
      |ext φ=>obtain⟨h1,⟨ob,h2⟩,h3⟩:=ho;exact⟨h3 _ _ h1 hk,⟨ob,hk _ h2⟩,h3⟩
      |_=>exact cO hm
     ·rw[o8 ha]at e;have lF:∀{b:aC} {o:HO},H2 b=cz o->a6W F H H2 b=cz o:=λ{b} {o} q=>by
       rw[o8 (λz=>by rw[BM b z]at q;cases q)];exact q
      exact (qw a o e).stay (λb u _ q=>q) (λb q=>lF q) λb xs q=>lF q
   |next=>exact cO hq
   |brk=>exact cO hq
   |cont=>exact cO hq
end
section
variable {X:Cx}{M:List Md}{a e0:Expr}{es:List Expr}{fa:EvE}{f:EvA}{ca:Cat}{u:Ty}{x:bM}{p pos:fV}
def b1z(W:Has X.prog X.w X.K X.mg X.base x k ps sp):Has X.prog X.w X.K X.mg X.base x k ps (c0g sp):=by
 obtain⟨f,fd,F,b⟩:=W.ex;exact⟨f,fd,a8u F,b⟩
def PAF(X:Cx)(M:List Md)(es:List Expr)(f:EvA):Prop:=
 ∃t,PA X es t/\∀(U:List D) (Y:L2.St) (H P:Hp) (F:List aC) (ds:List D) (Q:List V->Hp->Prop),StE X.K M U Y H P F->f U=cz ds->(∀vs H',Same H H'->DenAll X.K (cut H' F) vs ds->Q vs H')->t Y H Q
def a9H:PAF X M [] b8:=⟨_,n8,λU Y H P F ds Q S hf q=>by cases hf;exact q [] H (Same.refl _) denAll_nil⟩
def a3n(ha:PX X M a fa ca)(hr:PAF X M es fr)(hc:frozen ca:=by trivial)(hs:au (a::es) X.env=(xn,cI a X.env)::au es X.env:=by rfl):PAF X M (a::es) (a6 fa fr):=by
 obtain⟨ta,pa,qa⟩:=ha.out;obtain⟨tr,pr,qr⟩:=hr;refine⟨_,k6 pa pr hs,λU Y H P F ds Q S hf q=>?_⟩;obtain⟨x,h1,hf⟩:=bnd hf;obtain⟨xs,h2,hf⟩:=bnd hf;cases hf
 exact qa U Y H P F _ _ S h1 λv H1 e1 r1=>qr U Y H1 P F _ _ (S.grow e1) h2 λvs H2 e2 r2=>q (v::vs) H2 (e1.trans e2) (denAll_cons ((X8 hc r1).up (K3 e2)) r2)
def a6X(W:Has X.prog X.w X.K X.mg X.base x k ps (spD X.K n m u))(hr:Room k X.A)(h:PAF X M (e0::es) f)(hl:(e0::es).length=n:=by rfl)(hfl:∀U ds,f U=cz ds->ds.length=(e0::es).length)
  (hg:Gl X x:=by rfl) (mH:(x==("__debug__":bM))=xn:=by decide) (he:au (e0::es) X.env=(xn,cI e0 X.env)::au es X.env:=by rfl) (gK:(cD pos (au es X.env)).any (·.1)=xn:=by rfl) :
  PX X M (.Call (.Name x p) (e0::es) [] pos) (eCl m f) (.new u):=by
 obtain⟨t,pa,qa⟩:=h;refine .mk ⟨_,a5k (b1z W) hr pa hg mH he gK,λU Y H P F d Q S hf q=>?_⟩;obtain⟨ds,h1,hf⟩:=bnd hf;refine qa U Y H P F ds _ S h1 λvs H1 e1 r1=>?_
 show c0g (spD X.K n m u) (vs++[]) H1 Q E0;rw[aX];refine⟨F,S.lst' e1,ds,d,by rw[r1.length,hfl U ds h1,hl],r1,hf,λv H2 fp e o nd fr hz=>q v (a6W F H1 H2) ?_ ?_⟩
 ·intro b o' hb;have xp:=e1 b o' hb;by_cases c:b∈F
  ·rw[a0U c];exact xp
  ·rw[o8 c];exact e b o' (i7 c xp)
 ·have Bz:∀a∈fp,a∉F:=λa ha z=>by
   obtain⟨ys,hy⟩:=o.lst u a ha;rw[hz a z]at hy;cases hy
  refine⟨fp,Own.frame (λb o' hb=>?_) u o (λa ha=>o8 (Bz a ha)),nd,λa ha=>?_⟩
  ·obtain⟨n1,n2⟩:=m9 hb;have n3:b∉F:=λz=>by rw[hz b z]at n2;cases n2
   exact i7 (λz=>(ay.mp z).elim n1 n3) (by rw[o8 n3];exact n2)
  ·have:=fr a ha;rw[X6 (Bz a ha)]at this;exact e1.free this
end
def Junk(H:Hp)(C:List aC):Prop:=∀a∈C,∀u,H a=cz u->∃o,u=.frz o (.own a)
section
variable {K:ag}{H H':Hp}{C F:List aC}
theorem Junk.cut(h:Junk H C):Junk (cut H F) C:=λa ha u e=>h a ha u (m9 e).2
def Junk.out(h:Junk H C)(e:H a=cz u)(n:∀o,u≠.frz o (.own a)):a∉C:=λz=>by
 obtain⟨o,q⟩:=h a z u e;exact n o q
def b3N(h:Junk H C)(q:SqX K H a xs):SqX K (VS.cut H C) a xs:=by
 rcases q with (q|⟨o,q⟩)|q
 ·exact .inl (.inl (i7 (h.out q λo z=>(nomatch z)) q))
 ·exact .inl (.inr ⟨o,i7 (h.out q λo z=>by cases z) q⟩)
 ·exact .inr q
def b3O(h:Junk H C)(q:SqT K H a xs):SqT K (VS.cut H C) a xs:=by
 rcases q with (q|⟨o,q⟩)|q
 ·exact .inl (.inl (i7 (h.out q λo z=>(nomatch z)) q))
 ·exact .inl (.inr ⟨o,i7 (h.out q λo z=>by cases z) q⟩)
 ·exact .inr q
def a3o(h:Junk H C)(q:H a=cz (f9 a es)):VS.cut H C a=cz (f9 a es):=
 i7 (h.out q λo z=>by unfold f9 at z;cases z) q
mutual
theorem Den.junk(h:Junk H C):∀(d:bw) {v:V},Den K H v d->Den K (VS.cut H C) v d
 |.none,_,q=>by simpa only [Den]using q
 |.bool _,_,q=>by simpa only [Den]using q
 |.int _,_,q=>by simpa only [Den]using q
 |.str _,_,q=>by simpa only [Den]using q
 |.list ds,_,q=>by
  obtain⟨a,xs,rfl,h1,h2⟩:=q.list_inv;exact den_list (b3N h h1) (DenAll.junk h ds h2)
 |.tuple ds,_,q=>by
  obtain⟨a,xs,rfl,h1,h2⟩:=q.tup_inv;exact den_tup (b3O h h1) (DenAll.junk h ds h2)
 |.dict kvs,_,q=>by
  obtain⟨a,es,rfl,h1,h2⟩:=q.dict_inv;simp only[Den];exact⟨a,es,rfl,a3o h h1,DenKV.junk h kvs h2⟩
theorem DenAll.junk(h:Junk H C):∀(ds:List bw) {xs:List V},DenAll K H xs ds->DenAll K (VS.cut H C) xs ds
 |[],_,q=>by simpa only [DenAll]using q
 |d::ds,_,q=>by
  obtain⟨v,r,rfl,h1,h2⟩:=q.cons_inv;exact denAll_cons (Den.junk h d h1) (DenAll.junk h ds h2)
theorem DenKV.junk(h:Junk H C):∀(kvs:List (bw×bw)) {es:List (bw×V×V)},DenKV K H es kvs->DenKV K (VS.cut H C) es kvs
 |[],_,q=>by simpa only [DenKV]using q
 | (k,d)::r,_,q=>by
  simp only[DenKV]at q ⊢;obtain⟨x,es,h1,h2,h3,h4,h5⟩:=q;exact⟨x,es,h1,h2,Den.junk h k h3,Den.junk h d h4,DenKV.junk h r h5⟩
end
def b3P(a:aC):VS.cut (VS.cut H C) F a=VS.cut (VS.cut H F) C a:=by
 unfold VS.cut;by_cases h1:a∈F<;>by_cases h2:a∈C<;>simp[h1,h2]
def P4(h:Junk H C)(q:Den K (VS.cut H F) v d):Den K (VS.cut (VS.cut H C) F) v d:=
 (Den.junk h.cut d q).up λa o e=>by rw[b3P];exact e
mutual
theorem Own.junk(h:Junk H C):∀(u:Ty) {v:V} {d:bw} {fp:List aC},Own K H F u v d fp->Own K (VS.cut H C) F u v d fp
 |.i,_,_,_,q=>by simp only[Own]at q ⊢;exact⟨q.1,q.2.1,P4 h q.2.2⟩
 |.f,_,_,_,q=>by simp only[Own]at q ⊢;exact⟨q.1,P4 h q.2⟩
 |.l u,_,_,_,q=>by
  simp only[Own]at q ⊢;rcases q with⟨h1,h2,q⟩|⟨a,xs,ds,fs,rfl,h1,rfl,rfl,h2⟩
  ·exact .inl ⟨h1,h2,P4 h q⟩
  ·exact .inr ⟨a,xs,ds,fs,rfl,i7 (h.out h1 λo z=>(nomatch z)) h1,rfl,rfl,h2.imp λv d f _ _ z=>Own.junk h u z⟩
 |.tp us,_,_,_,q=>by
  simp only[Own]at q ⊢;rcases q with⟨h1,h2,q⟩|⟨a,xs,ds,rfl,h1,h0,rfl,h2⟩
  ·exact .inl ⟨h1,h2,P4 h q⟩
  exact .inr ⟨a,xs,ds,rfl,i7 (h.out h1 λo z=>(nomatch z)) h1,h0,rfl,OwnTs.junk h us h2⟩
 |.d kt u,_,_,_,q=>by
  simp only[Own]at q ⊢;obtain⟨a,es,ds,fs,rfl,h1,rfl,rfl,h3,h2⟩:=q;exact⟨a,es,ds,fs,rfl,a3o h h1,rfl,rfl,⟨h3.1,λx hx=>⟨(h3.2 x hx).1,P4 h (h3.2 x hx).2⟩⟩,h2.imp λv d f _ _ z=>Own.junk h u z⟩
theorem OwnTs.junk(h:Junk H C):∀(us:List Ty) {xs:List V} {ds:List bw} {fp:List aC},OwnTs K H F us xs ds fp->OwnTs K (VS.cut H C) F us xs ds fp
 |[],_,_,_,q=>by simpa only [OwnTs]using q
 |u::us,_,_,_,q=>by
  simp only[OwnTs]at q ⊢;obtain⟨v,r,d,e,f,g,rfl,rfl,rfl,h1,h2⟩:=q;exact⟨v,r,d,e,f,g,rfl,rfl,rfl,Own.junk h u h1,OwnTs.junk h us h2⟩
end
def a6Y(k:HOk P w H h)(j:Junk H C):HOk P w (VS.cut H C) h:=λa o e=>by
 obtain⟨na,e'⟩:=m9 e;refine (k a o e').stay (λb u _ q=>q) (λb q=>i7 (j.out q λo z=>(nomatch z)) q) λb u q=>i7 (λhb=>?_) q
 obtain⟨u,hu⟩:=u;obtain⟨ob,z⟩:=j b hb u q;subst z;have rY:b=a:=hu;exact na (rY▸hb)
def b1A(t:TabsIn K H)(j:Junk H C):TabsIn K (VS.cut H C):=λx hx p e=>by
 obtain⟨qs,t',e1,e2⟩:=t x hx p e;exact⟨qs,t',i7 (j.out e1 λo z=>(nomatch z)) e1,e2⟩
end
end VS
namespace VS
open PySem.Spec L2 PyProof.Rows
def FnV(P:bA)(w:bQ)(K:ag)(mg:bM->Option ai)(base:cM)(k n:Nat)(u:Ty)(m:List D->Option D)(H:Hp)(v:V):Prop:=
 ∃fa fo,v=.ref fa/\H fa=cz (.frz fo (.own fa))/\(∃fd,fo.data=.func fd)/\
  ∀(A:bN) (outer:List pH) (s:ao) (us:List ai) (vs:List V) (Q:VK) (E:XK),Room k A->Env0 P w K mg base A outer s H->Vals vs us->spD K n m u vs H Q E->
   kJ (a_ P w) A (.call (.ref fa) ⟨us,[]⟩) (CR CX0 outer P w H s Q E) s
section
variable {X:Cx}{M:List Md}{a e0:Expr}{es:List Expr}{fa:EvE}{f:EvA}{ca:Cat}{u:Ty}{x:bM}{p pos:fV}
def c0i(X:Cx)(i k n:Nat)(u:Ty)(m:List D->Option D)(t:TA):TE:=λY H Q=>∃v,Y[i]?=cz (cz v)/\t Y H λvs H1=>FnV X.prog X.w X.K X.mg X.base k n u m H1 v/\spD X.K n m u vs H1 Q E0
def b3Q(hr:Room k X.A)(ha:PA X (e0::es) t)(hN:X.N[i]?=cz x)(hv:Vis X.env.scope x)(hd:(x==("__debug__":bM))=xn)(nI:(x==("__classdict__":bM))=xn)
  (he:au (e0::es) X.env=(xn,cI e0 X.env)::au es X.env) (gK:(cD pos (au es X.env)).any (·.1)=xn):PE X (.Call (.Name x p) (e0::es) [] pos) (c0i X i k n u m t):=by
 rintro pins s Y H Q I ⟨v,e,h⟩;refine gG (L2.thn (C6 hN hv hd nI pins s Y H (λv' H'=>v'=v/\H'=H) I ⟨v,e,rfl,rfl⟩) λu1 s1 qz=>?_);obtain⟨v',H',I1,r1,z1,z2⟩:=qz;subst z1;subst z2;rw[he];refine PySem.W.callWith_of (P:=λh=>∃fa fo fd,u1=.ref fa/\h.get? fa=cz fo/\fo.data=.func fd) (by show ((xn||(cD pos (au es X.env)).any (·.1))||false)=xn;rw[gK];rfl) (λh ⟨fa,fo,fd,q1,q2,q3⟩=>?_) (oK ?_)
 ·subst q1;obtain⟨cls,dict,data,slots⟩:=fo;have CH:data=.func fd:=q3;subst CH;exact⟨.frame,.inl rfl,(PySem.W.Looks.ld (part:=p4) q2).andThen .now⟩
 ·have tH:=ha pos pins s1 Y H' _ I1 h;rw[he]at tH;refine L2.thn tH λus s2 qz=>?_
  obtain⟨vs,H2,I2,r2,⟨fa,fo,q1,q2,⟨fd,q3⟩,q4⟩,q5⟩:=qz;refine⟨?_,?_⟩
  ·have yO:u1=.ref fa:=by rw[q1]at r1;exact r1
   exact⟨fa,fo,fd,yO,(I2.hok fa _ q2).1,q3⟩
  ·have yO:u1=.ref fa:=by rw[q1]at r1;exact r1
   subst yO;refine qd (fX (q4 X.A X.stack s2 us vs Q E0 hr I2.env0 r2 q5) λr s' hq=>?_);cases r with
   |error e=>exact cO hq
   |ok fl=>
    cases fl with
    |ret u=>exact I2.after hq
    |next=>exact cO hq
    |brk=>exact cO hq
    |cont=>exact cO hq
def StE.getF{K:ag}{U:List D}{Y:L2.St}{H P:Hp}{F:List aC}{Φ:Hp->V->Prop}(h:StE K M U Y H P F){i:Nat}(hm:M[i]?=cz (.fn Φ)):∃v,Y[i]?=cz (cz v)/\∀H',Same (cut H F) H'->Φ H' v:=by
 obtain⟨G,h1,h3⟩:=h.all;obtain⟨d,o,f,pre,post,e1,e2,⟨_,v,rfl,q⟩,e4,_⟩:=h1.at_ hm;exact⟨v,e2,q⟩
def b3R(i:Nat){k n:Nat}{m:List D->Option D}(hr:Room k X.A)(h:PAX X M (e0::es) f)(hm:M[i]?=cz (.fn (FnV X.prog X.w X.K X.mg X.base k n u m)):=by rfl)(hu:u.shut=rp:=by rfl)(hl:(e0::es).length=n:=by rfl)(hfl:∀U ds,f U=cz ds->ds.length=(e0::es).length)
  (hN:X.N[i]?=cz x:=by rfl) (hv:autoParam (NmV X x) ZY._auto_1)
  (he:au (e0::es) X.env=(xn,cI e0 X.env)::au es X.env:=by rfl) (gK:(cD pos (au es X.env)).any (·.1)=xn:=by rfl) :
  PX X M (.Call (.Name x p) (e0::es) [] pos) (eCl m f) (.new u):=by
 obtain⟨t,pa,qa⟩:=h;refine .mk ⟨_,b3Q (i:=i) (n:=n) (m:=m) (u:=u) hr pa hN hv.1 hv.2.1 hv.2.2 he gK,λU Y H P F d Q S hf q=>?_⟩;obtain⟨ds,h1,hf⟩:=bnd hf;obtain⟨v,Dp,vg⟩:=S.getF hm;refine⟨v,Dp,qa U Y H P F ds _ S h1 λvs H1 e1 r1=>⟨vg H1 (j6.trans e1),?_⟩⟩;refine⟨ds,d,by rw[r1.length,hfl U ds h1,hl],r1,hf,λv H' fp e o nd fr=>q v H' (e1.trans e) ⟨fp,o.shut_out (λa ha=>?_) u hu,nd,λa ha=>e1.free (fr a ha)⟩⟩;rcases ay.mp ha with z|z
 ·exact o.lst u a z
 ·exact S.lst' (e1.trans e) a z
end
def spL(K:ag)(n:Nat)(Φ:(List D->Option D)->Hp->V->Prop)(m:(List D->Option D)->List D->Option D)(u:Ty):Sp:=λvs H Q _=>∃rs v gm ds d,vs=rs++[v]/\rs.length=n/\DenAll K H rs ds/\(∀H',Same H H'->Φ gm H' v)/\m gm ds=cz d/\
 ∀v H' fp,Same H H'->Own K H' fp u v d fp->fp.Nodup->(∀a∈fp,H a=p4)->Q v H'
def fnL(us:List Ty)(n:Nat)(g:(List D->Option D)->EvS):(List D->Option D)->List D->Option D:=λgm ds=>if argsOk us ds then (g gm (ds++(.none::aI n .none))).bind λo=>match o with
 |.rt d=>cz d
 |_=>p4
 else p4
theorem StAll.app{K:ag}{H:Hp}{F:List aC}:∀{M1 M2:List Md} {U1 U2:List D} {Y1 Y2:L2.St} {f1 f2:List aC},StAll K H F M1 U1 Y1 f1->StAll K H F M2 U2 Y2 f2->StAll K H F (M1++M2) (U1++U2) (Y1++Y2) (f1++f2)
 |[],_,_,_,_,_,_,_,h,q=>by simp only[StAll]at h;obtain⟨rfl,rfl,rfl⟩:=h;exact q
 |m::M,_,_,_,_,_,_,_,h,q=>by
  simp only[StAll]at h;obtain⟨d,U,o,Y,f,g,rfl,rfl,rfl,h1,h2⟩:=h;rw[aH];exact k7 h1 (StAll.app h2 q)
theorem a1Y{K:ag}{H:Hp}{F:List aC}:∀n:Nat,StAll K H F (aI n .dead) (aI n .none) (aI n p4) []
 |0=>O3
 |n+1=>k7 (f:=[]) (g:=[]) rfl (a1Y n)
def b3S{P:bA}{w:bQ}{K:ag}{mg:bM->Option ai}{base:cM}{x:bM}{st:iO}{f:aC}{fd:dU}{N ps:List bM}{k n:Nat}{us:List Ty}{u:Ty}{Φ:(List D->Option D)->Hp->V->Prop}{g:(List D->Option D)->EvS}{M':(List D->Option D)->List Md}(F:Fun K x x st f fd)(S:FnScope N ps (f8 st))(oX:us.length+1=ps.length)(hn:N.length=ps.length+n)
  (hb:∀(gm:List D->Option D) (gH:ai) (A:bN) (outer:List pH) (s:ao) (H:Hp) (E:XK),Room k (A.deeper (jD x (f8 st) s.heap.objs.size f gH))->PSsX (a0z CX0 P w K mg base N x (f8 st) f gH A outer s H E).nox u [] (us.map .own++(.fn (Φ gm)::aI n .dead)) (u7 st) (g gm) (M' gm)) :
  FnOk P w K mg base CX0 (k+1) f fd ps (spL K us.length Φ (fnL us n g) u):=by
 refine F.ok S (λvs H Q E h=>?_) (λgH A outer s H vs Q E hr h=>?_)
 ·obtain⟨rs,v,gm,ds,d,rfl,hl,_⟩:=h;rw[av,hl];exact oX
 obtain⟨rs,v,gm,ds,d,rfl,hl,hd,hΦ,hm,q⟩:=h;obtain⟨t,p,r⟩:=(hb gm gH A outer s H E hr).out;refine⟨t,p,?_⟩;unfold fnL at hm;by_cases ha:argsOk us ds=rp
 ·rw[aE ha]at hm;obtain⟨o,h1,h2⟩:=bnd hm;cases o with
  |rt d'=>
   have ox:cz d'=cz d:=h2;cases ox
   have e:L2.start N (rs++[v])=rs.map cz++(cz v::aI n p4):=by
    unfold L2.start;rw[show N.length-(rs++[v]).length=n by rw[av,hl];show N.length-(us.length+1)=n;lia];simp
   rw[e];have h0:=Q8 (K:=K) (H:=H) ha hd 0;simp only[hJ,aX]at h0;have s_:=h0.app (k7 (K:=K) (H:=H) (F:=[]) (m:=.fn (Φ gm)) (d:=iQ) (o:=cz v) (f:=[]) ⟨rfl,v,rfl,λH' e'=>hΦ H' (by rw[H9]at e';exact e')⟩ (a1Y n));refine r _ _ _ H H [] (.rt d) ⟨⟨_,s_,bE,λa ha=>(nomatch ha)⟩,λa ha=>(nomatch ha),by rw[H9];exact Same.refl H⟩ h1 ?_;exact λv H' fp o nd fr e=>q v H' fp e o nd fr
  |_=>cases h2
 ·rw[aM ha]at hm;cases hm
section
variable {X:Cx}{M:List Md}{e0:Expr}{es:List Expr}{f:EvA}{u:Ty}{x y:bM}{p pv pos:fV}
def b6R:∀(U:List D) ds,b8 U=cz ds->ds.length=0:=λU ds h=>by cases h;rfl
def b3T(h:∀U ds,fr U=cz ds->ds.length=n):∀U ds,a6 fa fr U=cz ds->ds.length=n+1:=λU ds q=>by
 obtain⟨x,h1,q⟩:=bnd q;obtain⟨xs,h2,q⟩:=bnd q;cases q
 rw[aS,h U xs h2]
def PAL(X:Cx)(M:List Md)(es:List Expr)(f:EvA)(Ψ:Hp->V->Prop):Prop:=
 ∃t,PA X es t/\∀(U:List D) (Y:L2.St) (H P:Hp) (F:List aC) (ds:List D) (Q:List V->Hp->Prop),StE X.K M U Y H P F->f U=cz ds->
  (∀vs v H',Same H H'->DenAll X.K H' vs ds->Ψ H' v->Q (vs++[v]) H')->t Y H Q
def b3U(ha:PX X M a fa ca)(hr:PAL X M es fr Ψ)(hs:au (a::es) X.env=(xn,cI a X.env)::au es X.env:=by rfl):PAL X M (a::es) (a6 fa fr) Ψ:=by
 obtain⟨ta,pa,qa⟩:=ha.out;obtain⟨tr,pr,qr⟩:=hr;refine⟨_,k6 pa pr hs,λU Y H P F ds Q S hf q=>?_⟩;obtain⟨x,h1,hf⟩:=bnd hf;obtain⟨xs,h2,hf⟩:=bnd hf;cases hf
 exact qa U Y H P F _ _ S h1 λv H1 e1 r1=>qr U Y H1 P F _ _ (S.grow e1) h2 λvs w H2 e2 r2 hw=>q (v::vs) w H2 (e1.trans e2) (denAll_cons (r1.den.up e2) r2) hw
end
def a6Z:∀(l r:List ai),kW l->kW r->kW (l++r):=by
 intro l
 fun_induction kW l with
 |case1=>intro r _ h;exact h
 |case2 a t b u c rest ih=>intro r h1 h2;simp only[bP,kW];exact ih r h1 h2
 |case3=>intro r h;exact h.elim
def b1B:∀(l r:List ai),kW l->mK pos (l++r)=cz cv->mK pos l=cz cv\/mK pos r=cz cv:=by
 intro l
 fun_induction kW l with
 |case1=>intro r _ h;exact .inr h
 |case2 a t b u c rest ih=>
  intro r h1 h2;simp only[bP,mK]at h2 ⊢
  split at h2
  ·rename_i hc
   rw[aE hc];exact .inl h2
  ·rename_i hc
   rw[aM hc];exact ih r h1 h2
 |case3=>intro r h;exact h.elim
def LamO(q:bM)(params:oS)(body:Expr)(scope:gL)(clos:List (bM×aC))(H:Hp)(fa:aC):Prop:=
 ∃pm c' mT oc vs t b,H fa=cz (.frz (eR "<lambda>" q params body scope clos pm c' mT) (.own fa))/\H c'=cz (.frz oc (.own b))/\oc.data=.fields vs/\vs[1]?=cz (.str q t)
def LamO.up(h:LamO q params body scope clos H fa)(e:Same H H'):LamO q params body scope clos H' fa:=by
 obtain⟨pm,c',mT,oc,vs,t,b,h1,h2,h3⟩:=h;exact⟨pm,c',mT,oc,vs,t,b,e _ _ h1,e _ _ h2,h3⟩
def c2a(q:bM)(params:oS)(body:Expr)(scope:gL)(clos:List (bM×aC)):TE:=λ_ H Q=>∀fa H',Same H H'->LamO q params body scope clos H' fa->Q (.ref fa) H'
def b1C{X:Cx}(hx:x∈K1)(hP:A0 X.K x=cz P)(hc:X.env.code=.ref c)(hd:gM X.base c P)(hq:X.env.qual++"<lambda>"=U9 x)
  (pS:qD scope X.env=pure clos) (uI:defaultsOf params X.env=([],[])):PE X (.Lambda params body scope k_) (c2a (U9 x) params body scope clos):=by
 intro pins s Y H Q I h;refine PySem.W.kla_eval uI ?_;rw[hq];obtain⟨qs,t0,e1,e2⟩:=I.tabs x hx P hP;obtain⟨ps,xy,ht,hf⟩:=(show a6k H s.heap P qs from I.hok P _ e1);have zT:s.heap.Ns bU X.mg:=I.mod.glob.keeps I.bk;obtain⟨bm,ob,b1,b2,b3,b4,b5,b6⟩:=I.mod.bmain;have Ew:bU≠P:=λq=>by
  obtain⟨o,es,ep,e,jO,_⟩:=zT;rw[q,xy]at e;cases e;cases jO
 have EL:bm≠P:=λq=>by
  have e:=I.bk _ _ b3;rw[q,xy]at e;cases e;cases b4
 have EM:bm≠bU:=λq=>by
  obtain⟨o,es,ep,e,jO,_⟩:=I.mod.glob;rw[q,e]at b3;cases b3;rw[jO]at b6;cases b6
 have hB:s.heap.BuiltinsAt X.mg P:=⟨bm,ob,b1,b2,EM,EL,I.bk _ _ b3,b4,b5,b6⟩;have hC:gM s.heap c P:=hd.keeps I.bk;cases hn:mK k_ ps.toList with
 |some cv=>
  obtain⟨c',oc,vs,q,t,t',rfl,z2,z3,z4,z5⟩:=hf k_ cv hn;rw[e2]at z5;have Cj:sM (U9 x) t0=sM q t':=aF z5;cases Cj
  refine PySem.W.kla_makeFunctionHit (mg:=X.mg) pS I.ok.glob zT hc hC xy ht hn hB λmT h' tk hk oN=>?_
  have o_:H h'.objs.size=p4:=I.hok.fresh oN;have I':=I.laid (a:=h'.objs.size) (o:=.frz (eR "<lambda>" (U9 x) params body scope clos ((X.mg "__name__").getD .none) c' mT) (.own h'.objs.size)) (t':=tk) (h':=h'.push (eR "<lambda>" (U9 x) params body scope clos ((X.mg "__name__").getD .none) c' mT)) (λb u e=>aO _ (hk b u e)) oN ⟨bz _ rfl,_,bz _ rfl⟩;refine⟨.ref h'.objs.size,_,I',rfl,h _ _ (j8 o_ _) ⟨_,c',mT,oc,vs,t,P,g8,?_,z3,z4⟩⟩;rw[c6 (i4 z2 o_)];exact z2
 |none=>
  refine PySem.W.kla_makeFunction (mg:=X.mg) pS I.ok.glob zT hc hC xy ht hn Ew hB λc' mT h' tk Dg vA jN zx Bm=>?_
  obtain⟨c2,oc,vs,t,rc,wH,BC,oM⟩:=zx;cases rc
  have EX:P<s.heap.objs.size:=aY xy;have yo:H c'=p4:=I.hok.fresh vA;have xb:s.heap.objs.size<=h'.objs.size:=eJ (kc vA jN);have o_:H h'.objs.size=p4:=I.hok.fresh xb;have i_:c'≠h'.objs.size:=bO jN;have low:∀b u,H b=cz u->upd (upd H c' (.frz oc (.own P))) h'.objs.size (.frz (eR "<lambda>" (U9 x) params body scope clos ((X.mg "__name__").getD .none) c' mT) (.own h'.objs.size)) b=cz u:=λb u e=>by
   rw[c6 (i4 e o_),c6 (i4 e yo)];exact e
  have yZ:∀b,b<s.heap.objs.size->H b=p4->upd (upd H c' (.frz oc (.own P))) h'.objs.size (.frz (eR "<lambda>" (U9 x) params body scope clos ((X.mg "__name__").getD .none) c' mT) (.own h'.objs.size)) b=p4:=λb hb e=>by
   rw[c6 (bO (bx hb xb)),c6 (bO (bx hb vA))];exact e
  have kp:∀b o,b≠P->s.heap.get? b=cz o->(h'.push (eR "<lambda>" (U9 x) params body scope clos ((X.mg "__name__").getD .none) c' mT)).get? b=cz o:=λb o hb e=>aO _ (Dg b o hb e)
  have nP:∀b,H b=p4->b≠P:=λb e z=>by rw[z,e1]at e;cases e
  have I':=I.un (t':=tk) (h':=h'.push (eR "<lambda>" (U9 x) params body scope clos ((X.mg "__name__").getD .none) c' mT)) (H':=upd (upd H c' (.frz oc (.own P))) h'.objs.size (.frz (eR "<lambda>" (U9 x) params body scope clos ((X.mg "__name__").getD .none) c' mT) (.own h'.objs.size)))
   ⟨λb o e n _ _=>kp b o (nP b n) e,λb o e n _ _=>⟨o.slots,kp b o (nP b n) e⟩,λb o e n _=>yZ b (aY e) n,λb o e _=>by
    by_cases hb:b=P
    ·exact⟨_,by rw[hb];exact aO _ Bm⟩
    ·exact⟨o,kp b o hb e⟩,λb xs e=>low b _ e,λb o u e=>low b _ e,λb Gh e=>⟨#[],by rw[low b _ e];simp⟩⟩ (λb u e=>by
    by_cases xp:b=h'.objs.size
    ·subst xp;rw[g8]at e;cases e
     exact⟨bz _ rfl,_,bz _ rfl⟩
    ·rw[c6 xp]at e;by_cases BF:b=c'
     ·subst BF;rw[g8]at e;cases e
      exact⟨aO _ wH,_,aO _ wH⟩
     ·rw[c6 BF]at e;by_cases BE:b=P
      ·subst BE;rw[e1]at e;cases e
       refine⟨_,aO _ Bm,?_,λpos cv z=>?_⟩
       ·have:(ps++#[jK k_.line,jK k_.col,bt c']).toList=ps.toList++[jK k_.line,jK k_.col,bt c']:=by simp
        rw[this];exact a6Z _ _ ht trivial
       ·have:(ps++#[jK k_.line,jK k_.col,bt c']).toList=ps.toList++[jK k_.line,jK k_.col,bt c']:=by simp
        rw[this]at z;rcases b1B _ _ ht z with z|z
        ·obtain⟨c3,CO,Cq,q3,t3,t4,y1,y2,y3,y4,y5⟩:=hf pos cv z;exact⟨c3,CO,Cq,q3,t3,t4,y1,low _ _ y2,y3,y4,y5⟩
        ·have z':cv=.ref c':=by
          simp only[jK,mK]at z
          split at z
          ·exact (aF z).symm
          ·cases z
         refine⟨c',oc,vs,U9 x,t,t0,z',?_,BC,oM,e2⟩;rw[c6 i_,g8]
      ·refine (I.hok b u e).stay (λd v jO q=>kp d v (λz=>?_) q) (λd q=>low _ _ q) λd v q=>low _ _ q
       rcases jO with z'|z'
       ·exact BE (z'.symm.trans z)
       ·rw[z,e1]at z';cases z')
  refine⟨.ref h'.objs.size,_,I',rfl,h _ _ (λb u e=>low b u e) ⟨_,c',mT,oc,vs,t,P,g8,?_,BC,oM⟩⟩;rw[c6 i_,g8]
def a9I(P:bA)(w:bQ)(K:ag)(mg:bM->Option ai)(base:cM)(N:List bM)(q:bM)(scope:gL)(f:aC)(cd:ai)(cl:List (bM×aC))(A:bN)(outer:List pH)(s:ao)(H:Hp):Cx where
 prog:=P
 w:=w
 K:=K
 mg:=mg
 base:=base
 A:=A.deeper (jL q scope s.heap.objs.size f cd cl)
 N:=N
 s₀:=s
 H₀:=H
 env:=jL q scope s.heap.objs.size f cd cl
 outer:=outer
 stack:=jL q scope s.heap.objs.size f cd cl::outer
 ex:=[]
 calm:=rp
 fn:=λ_=>xn
 pn:=[]
 xe:=λ_ _=>False
structure LamScope (N ps ys:List bM) (sc:gL) (cl:List (bM×aC)):Prop where
 kind:sc.kind=.function
 co:sc.isCoroutine=xn
 gen:sc.isGenerator=xn
 nd:N.Nodup
 pre:N=ps++ys
 par:∀x∈ps,sc.names.lookup x=cz .local
 fre:∀y∈ys,sc.names.lookup y=cz .free
 ncell:∀x∈sc.names,x.2≠.cell
 has:(sc.names.all λx=>x.2 !=.free||(cl.lookup x.1).isSome)=rp
def CellsIn(cl:List (bM×aC))(H:Hp):List bM->List V->Prop
 |[],vs=>vs=[]
 |y::ys,vs=>∃v r c ob uo,vs=v::r/\cl.lookup y=cz c/\H c=cz (.frz ob (.own c))/\ob.data=.cell (cz uo)/\RelV v uo/\CellsIn cl H ys r
section
variable {cl:List (bM×aC)}{H H':Hp}
theorem CellsIn.up(e:Same H H'):∀{ys:List bM} {vs:List V},CellsIn cl H ys vs->CellsIn cl H' ys vs
 |[],_,h=>h
 |y::ys,_,h=>by
  obtain⟨v,r,c,ob,uo,h1,h2,h3,h4,h5,h6⟩:=h;exact⟨v,r,c,ob,uo,h1,h2,e _ _ h3,h4,h5,CellsIn.up e h6⟩
theorem CellsIn.len:∀{ys:List bM} {vs:List V},CellsIn cl H ys vs->vs.length=ys.length
 |[],_,h=>by rw[show _=[] from h];rfl
 |y::ys,_,h=>by
  obtain⟨v,r,c,ob,uo,rfl,h2,h3,h4,h5,h6⟩:=h;rw[aS,aS,CellsIn.len h6]
theorem CellsIn.get:∀{ys:List bM} {vs:List V} {i:Nat} {y:bM} {v:V},CellsIn cl H ys vs->ys[i]?=cz y->vs[i]?=cz v->∃c ob uo,cl.lookup y=cz c/\H c=cz (.frz ob (.own c))/\ob.data=.cell (cz uo)/\RelV v uo
 |[],_,i,y,v,_,e,_=>by simp at e
 |y0::ys,_,0,y,v,h,e1,e2=>by
  obtain⟨v',r,c,ob,uo,rfl,h2,h3,h4,h5,h6⟩:=h;have Fy:y0=y:=by simpa using e1
  have Fx:v'=v:=by simpa using e2
  subst Fy Fx;exact⟨c,ob,uo,h2,h3,h4,h5⟩
 |y0::ys,_,i+1,y,v,h,e1,e2=>by
  obtain⟨v',r,c,ob,uo,rfl,h2,h3,h4,h5,h6⟩:=h;exact CellsIn.get h6 (by simpa using e1) (by simpa using e2)
end
def b3V(cl:List (bM×aC))(H:Hp):Prop:=∀y c,cl.lookup y=cz c->∃ob uo,H c=cz (.frz ob (.own c))/\ob.data=.cell uo
def fnE(us:List Ty)(r_:List D)(f:EvE):List D->Option D:=λds=>if argsOk us ds then f (ds++r_) else p4
theorem b8e{K:ag}{H:Hp}:∀{vs:List V} {ds:List D},DenAll K H vs ds->StAll K H [] (aI vs.length (.own .f)) ds (vs.map cz) []
 |_,[],h=>by rw[h.nil_inv];exact O3
 |_,d::ds,h=>by
  obtain⟨v,r,rfl,h1,h2⟩:=h.cons_inv;refine k7 (K:=K) (H:=H) (F:=[]) (m:=.own .f) (f:=[]) (g:=[]) ⟨v,rfl,?_⟩ (b8e h2);simp only[Own,H9];exact⟨trivial,h1⟩
theorem a1Z:∀(ps:List α) (us:List β),((ps.zip us).map (·.1)).Sublist ps
 |[],_=>by rw[oI];exact iF _
 |p::ps,[]=>by rw[nM];exact List.nil_sublist _
 |p::ps,u::us=>by rw[dJ,aB];exact (a1Z ps us).cons₂ p
def a3p{ps:List bM}{us:List ai}:∀{i:Nat} {y:bM} {v:ai},ps.Nodup->ps[i]?=cz y->us[i]?=cz v->(ps.zip us).reverse.lookup y=cz v:=by
 intro i y v nd h1 h2;have hm:(y,v)∈(ps.zip us).reverse:=by
  rw[List.mem_reverse];exact bo (by rw[gY];exact⟨h1,h2⟩)
 have hk:(((ps.zip us).reverse).map (·.1)).Nodup:=by
  rw[List.map_reverse];have h0:((ps.zip us).map (·.1)).Nodup:=nd.sublist (a1Z ps us);exact vP.mpr (h0.imp λz=>fm z)
 have key:∀l:List (bM×ai),(l.map (·.1)).Nodup->(y,v)∈l->l.lookup y=cz v:=by
  intro l
  induction l with
  |nil=>intro _ h;cases h
  |cons p l ih=>
   intro hn hm;rw[aB,cF]at hn;obtain⟨k,z⟩:=p;rcases aN.mp hm with e|e
   ·cases e;simp[List.lookup]
   ·have:(y==k)=xn:=by
     rw[jF];intro q;exact hn.1 (q▸aG.mpr ⟨_,e,rfl⟩)
    rw[f_,this];exact ih hn.2 e
 exact key _ hk hm
def b6S{P:bA}{w:bQ}{K:ag}{mg:bM->Option ai}{base:cM}{k:Nat}{q:bM}{params:oS}{body:Expr}{scope:gL}{cl:List (bM×aC)}{N ps ys:List bM}{us:List Ty}{u:Ty}{f:EvE}{mC:List V}{r_:List D}{H:Hp}{fa:aC}
  (L:LamO q params body scope cl H fa) (S:LamScope N ps ys scope cl) (uD:∀x y c,cl.lookup x=cz c->cl.lookup y=cz c->x=y) (hC:CellsIn cl H ys mC) (yw:b3V cl H) (hD:DenAll K H mC r_) (oX:us.length=ps.length)
  (oq:∀(pm:ai) (c:aC) (mT:ai) (us:List ai),us.length=ps.length->rH (PySem.W.kla_fn "<lambda>" q params body scope cl pm (.ref c) mT) ⟨us,[]⟩=pure (ps.zip us))
  (hb:∀(c:aC) (A:bN) (outer:List pH) (s:ao) (H:Hp),Room k (A.deeper (jL q scope s.heap.objs.size fa (.ref c) cl))->PX (a9I P w K mg base N q scope fa (.ref c) cl A outer s H) (us.map .own++aI ys.length (.own .f)) body f (.new u)) :
  FnV P w K mg base (k+1) ps.length u (fnE us r_ f) H (.ref fa):=by
 obtain⟨pm,c',mT,oc,Cr,t0,b0,l1,l2,l3,l4⟩:=L;refine⟨fa,_,rfl,l1,⟨_,rfl⟩,λA outer s as vs Q E hr e0 rv qz=>?_⟩;obtain⟨ds,d,hl,hd,hm,hq⟩:=qz;obtain⟨C,memC,we⟩:∃C:List aC,(∀c∈C,∃y,cl.lookup y=cz c)/\∀y c,cl.lookup y=cz c->c∈C:=
  ⟨(cl.map (·.1)).filterMap λy=>cl.lookup y,λc hc=>let⟨y,_,e⟩:=dM.mp hc;⟨y,e⟩,λy c e=>dM.mpr ⟨y,aG.mpr ⟨(y,c),cB e,rfl⟩,e⟩⟩
 have J:Junk H C:=λa ha u e=>by
  obtain⟨y,hy⟩:=memC a ha;obtain⟨ob,uo,h1,_⟩:=yw y a hy;rw[h1]at e;cases e
  exact⟨ob,rfl⟩
 have C_:∀a∈C,∃u,H a=cz u:=λa ha=>by
  obtain⟨y,hy⟩:=memC a ha;obtain⟨ob,uo,h1,_⟩:=yw y a hy;exact⟨_,h1⟩
 have lim:s.heap.NoLimit:=e0.mod.nolimit.keeps λb o e=>(e0.bs b o e).1
 have ho:s.heap.get? fa=cz (eR "<lambda>" q params body scope cl pm c' mT):=(e0.hok fa _ l1).1;have EG:s.heap.CodeRec (.ref c') q:=⟨c',oc,Cr,t0,rfl,(e0.hok c' _ l2).1,l3,l4⟩;have EO:as.length=ps.length:=by rw[<-rv.length];exact hl
 have CQ:ps.Nodup:=by have:=S.nd;rw[S.pre]at this;exact this.sublist (kQ _ _)
 refine PySem.W.kla_callFunE hr.depth ho rfl S.co S.gen rfl EG ?_;rw[oq pm c' mT as EO];refine aA (wpAny_newFunctionEnv S.ncell (λy hy=>S.par _ (jA hy).1) (λh₁ su zt=>⟨lim.fresh _ zt,?_⟩) S.kind);show kJ _ _ (.expr body (jL q scope s.heap.objs.size fa (.ref c') cl)) _ _;have pQ:∀b o,s.heap.get? b=cz o->h₁.get? b=cz o:=λb o e=>zt.extBut b o (bO (aY e)) (aO _ e)
 have uc:∀b:aC,b∉(a9I P w K mg base N q scope fa (.ref c') cl A outer s (VS.cut H C)).ex:=λb z=>absurd (show b∈([]:List aC) from z) (by simp)
 have Ee:N.length=ps.length+ys.length:=by rw[S.pre,av]
 have I:Inv (a9I P w K mg base N q scope fa (.ref c') cl A outer s (VS.cut H C)) [] (vs.map cz++mC.map cz) (VS.cut H C) {s with heap:=h₁,toks:=s.toks+(ps.zip as).length}:=by
  refine⟨⟨e0.mod,S.kind,rfl,rfl,az _,uD,λx hx=>?_,λx c hx _=>(nomatch hx),λ_=>hr.hd,bN.frames_deeper e0.frames,.inr ⟨rfl,rfl⟩,λb z=>absurd z (uc b),λb o e=>⟨(e0.bs b o e).1,x4 (e0.bs b o e).2⟩,e0.bsz,λb _ _=>uc b,λb z=>absurd z (uc b),e0.funs,λb hb=>x4 (e0.frf b hb),b1A e0.tabs J⟩,
   rfl,e0.bare,Un.kept pQ,⟨_,su,λi x v h1 h2 h3=>?_⟩,λx c e=>?_,x4 (e0.hok.fresh (az _)),λx c e=>V5 (we x c e),λp hp=>absurd (show p∈([]:List (aC×gc)) from hp) (by simp),(a6Y e0.hok J).kept pQ,?_⟩
  ·have wq:scope.names.lookup x=cz .cell\/scope.names.lookup x=cz .free:=hx;rcases wq with z|z
   ·exact absurd rfl (S.ncell _ (cB z))
   ·have w:=dP.mp S.has _ (cB z);rw[me]at w;rcases w with w|w
    ·exact absurd (show (fJ !=fJ)=rp from w) (by decide)
    ·exact kP.mp w
  ·have nV:(ps++ys)[i]?=cz x:=by rw[<-S.pre];exact h1
   by_cases hi:i<ps.length
   ·rw[cG hi]at nV;rw[cG (by rw[af,hl];exact hi),aQ]at h2;have ox:vs[i]?=cz v:=by
     cases e:vs[i]? with
     |none=>rw[e]at h2;cases h2
     |some a=>rw[e]at h2;cases h2;rfl
    obtain⟨u',hu,r⟩:=rv.get ox;exact⟨u',r,.inl ⟨S.par x (bo nV),a3p CQ nV hu⟩⟩
   ·rw[bI (by lia)]at nV;rw[bI (by rw[af,hl];lia),af,aQ,hl]at h2;have ox:mC[i-ps.length]?=cz v:=by
     cases e:mC[i-ps.length]? with
     |none=>rw[e]at h2;cases h2
     |some a=>rw[e]at h2;cases h2;rfl
    obtain⟨c,ob,uo,z1,z2,z3,z4⟩:=hC.get nV ox;exact⟨uo,z4,.inr ⟨.inr (S.fre x (bo nV)),c,z1,ob,pQ c ob (e0.hok c _ z2).1,z3⟩⟩
  ·obtain⟨ob,uo,z1,z2⟩:=yw x c e;exact⟨uo,ob,pQ c ob (e0.hok c _ z1).1,z2⟩
  ·show _=N.length;rw[av,af,af,hl,hC.len,Ee]
 obtain⟨t,pt,qt⟩:=(hb c' A outer s (VS.cut H C) (hr.deeper _)).out;unfold fnE at hm;by_cases ha:argsOk us ds=rp
 ·rw[aE ha]at hm;have EE:DenAll K (VS.cut H C) vs ds:=DenAll.junk J ds hd;have EI:DenAll K (VS.cut H C) mC r_:=DenAll.junk J r_ hD;have h0:=Q8 (K:=K) (H:=VS.cut H C) ha EE 0;simp only[hJ,aX]at h0;have h1:=b8e EI;rw[hC.len]at h1;have SE:StE K (us.map .own++aI ys.length (.own .f)) (ds++r_) (vs.map cz++mC.map cz) (VS.cut H C) (VS.cut H C) []:=⟨⟨_,h0.app h1,λa ha=>(nomatch ha)⟩,λa ha=>(nomatch ha),by rw[H9];exact Same.refl _⟩;refine PySem.W.kla_codeExpr (dW (pt [] _ _ (VS.cut H C) (λv H'=>Same (VS.cut H C) H'/\ResR K (.new u) (VS.cut H C) H' [] v d) I (qt (ds++r_) _ (VS.cut H C) (VS.cut H C) [] d _ SE hm λv H' e r=>⟨e,r⟩)) (λv s' hs=>?_) λe s' hs=>(show False from hs).elim);obtain⟨v',H',J',r',e',fp,o,nd,fr⟩:=hs;have qg:∀c∈C,H' c=p4:=λc hc=>by
   obtain⟨y,hy⟩:=memC c hc;exact J'.freeC y c hy
  have ze:∀{b:aC} {o:HO},H' b=cz o->a6W C H H' b=cz o:=λ{b o} q=>by
   rw[o8 (λz=>by rw[qg b z]at q;cases q)];exact q
  have nC:∀{b:aC},H b=p4->b∉C:=λ{b} n z=>by
   obtain⟨u,hu⟩:=C_ b z;rw[n]at hu;cases hu
  have yz:∀a∈fp,a∉C:=λa ha z=>by
   obtain⟨ys,q⟩:=o.lst u a ha;rw[qg a z]at q;cases q
  refine (show CE outer P w H s Q v s' from⟨v',a6W C H H',J'.os,J'.bare,⟨λb o q n hb hx=>J'.base.keep b o q (x4 n) hb hx,λb o q n hb hx=>J'.base.slot b o q (x4 n) hb hx,λb o q n hx=>?_,J'.base.there,λb xs e=>?_,λb o u e=>?_,λb ps e=>?_⟩,λb o e=>?_,r',hq v' _ fp (λb o e=>?_) ?_ nd λa ha=>?_⟩)
  ·rw[o8 (nC n)];exact J'.base.free b o q (x4 n) hx
  ·have nb:=J.out e λo z=>(nomatch z)
   rw[o8 nb];exact J'.base.tups b xs (i7 nb e)
  ·by_cases hb:b∈C
   ·rw[a0U hb];exact e
   ·rw[o8 hb];exact J'.base.frzs b o u (i7 hb e)
  ·have nb:=J.out e λo z=>(nomatch z)
   obtain⟨more,z⟩:=J'.base.tbls b ps (i7 nb e);exact⟨more,by rw[o8 nb];exact z⟩
  ·by_cases hb:b∈C
   ·rw[a0U hb]at e;obtain⟨ob,rfl⟩:=J b hb o e;have z:=(e0.hok b _ e).1;have z':=J'.base.keep b ob z (V5 hb) (λy=>by rw[e0.frf b y]at e;cases e) (by intro y;exact absurd (show b∈([]:List aC) from y) (by simp));exact⟨z',_,z'⟩
   ·rw[o8 hb]at e;exact (J'.hok b o e).stay (λ_ _ _ q=>q) (λb q=>ze q) λb u q=>ze q
  ·by_cases hb:b∈C
   ·rw[a0U hb];exact e
   ·rw[o8 hb];exact e' b o (i7 hb e)
  ·refine Own.frame (λb o' hb=>?_) u o λa ha=>o8 (yz a ha)
   obtain⟨n1,n2⟩:=m9 hb;exact i7 (λz=>n1 (ak _ z)) (ze n2)
  ·have:=fr a ha;rw[X6 (yz a ha)]at this;exact this
 ·rw[aM ha]at hm;cases hm
def a9J(X:Cx)(cl:List (bM×aC)):List bM->List Nat->Prop
 |[],js=>js=[]
 |y::ys,js=>∃j r c,js=j::r/\X.N[j]?=cz y/\X.env.kindOf y=cz .cell/\X.env.cells.lookup y=cz c/\cl.lookup y=cz c/\a9J X cl ys r
def c2b(X:Cx)(cl:List (bM×aC)):Prop:=∀p∈cl,X.env.cells.lookup p.1=cz p.2/\X.fn p.1=rp
def b6T(Y:L2.St):List Nat->List V->Prop
 |[],vs=>vs=[]
 |j::js,vs=>∃v r,vs=v::r/\Y[j]?=cz (cz v)/\b6T Y js r
def c0j(X:Cx)(cl:List (bM×aC))(ys:List bM)(js:List Nat)(sp:Sp)(t:TA):TE:=λY H Q=>t Y H λvs H1=>∃mC,b6T Y js mC/\
 ∀(H2:Hp) (C:List aC),(∀x y c,cl.lookup x=cz c->cl.lookup y=cz c->x=y)->Same H1 H2->CellsIn cl H2 ys mC->b3V cl H2->Junk H2 C->(∀b,b∉C->H2 b=H1 b)->(∀b∈C,H1 b=p4)->sp vs H2 (λv H'=>Junk H' C->Q v (VS.cut H' C)) E0
theorem a7a{cl:List (bM×aC)}(I:Inv X pins Y H s)(h2:∀y c,cl.lookup y=cz c->∀ob,s.heap.get? c=cz ob->H2 c=cz (.frz ob (.own c))) :
  ∀{ys:List bM} {js:List Nat} {mC:List V},a9J X cl ys js->b6T Y js mC->CellsIn cl H2 ys mC
 |[],js,mC,h,q=>by
  rw[show js=[] from h]at q;exact q
 |y::ys,_,mC,h,q=>by
  obtain⟨j,r,c,rfl,h1,h3,h4,h5,h6⟩:=h;obtain⟨v,rs,rfl,q1,q2⟩:=q;obtain⟨m,hn,hl⟩:=I.loc;obtain⟨u,ru,lk⟩:=hl j y v h1 q1 (.inr (.inl h3));rcases lk with⟨k,_⟩|⟨k,c',e',ob,z1,z2⟩
  ·rw[h3]at k;cases k
  ·rw[h4]at e';cases e'
   exact⟨v,rs,c,ob,u,rfl,h5,h2 y c h5 ob z1,z2,ru,a7a I h2 h6 q2⟩
section
variable {X:Cx}{k:Nat}{f:aC}{fd:dU}{ps:List bM}{sp:Sp}{x:bM}{p pos:fV}{e:Expr}{es:List Expr}{t:TA}{cl:List (bM×aC)}{ys:List bM}{js:List Nat}
def b3W(F:FnOk X.prog X.w X.K X.mg X.base CX0 k f fd ps sp)(hr:Room k X.A)(hg:Gl X x)(hm:X.mg x=cz (.ref f))(hk:fZ X.K (.ref f)=rp)(hb:Binds X.K fd ps [])(ha:PA X (e::es) t)(uK:a9J X cl ys js)(mG:c2b X cl)
  (mH:(x==("__debug__":bM))=xn) (he:au (e::es) X.env=(xn,cI e X.env)::au es X.env) (gK:(cD pos (au es X.env)).any (·.1)=xn) :
  PE X (.Call (.Name x p) (e::es) [] pos) (c0j X cl ys js sp t):=by
 intro pins s0 Y H0 Q I0 h;refine gG (a5c I0 hg hm ?_ mH);refine AI (h₀:=X.base) I0.ok.mod.kin hk (L2.thn (ha pos pins s0 Y H0 _ I0 h) λus s ⟨vs,H,I,r,mC,EF,q⟩=>⟨I.kIn,?_⟩) he gK;obtain⟨C,memC,we⟩:∃C:List aC,(∀c∈C,∃y,cl.lookup y=cz c)/\∀y c,cl.lookup y=cz c->c∈C:=
  ⟨(cl.map (·.1)).filterMap λy=>cl.lookup y,λc hc=>let⟨y,_,e⟩:=dM.mp hc;⟨y,e⟩,λy c e=>dM.mpr ⟨y,aG.mpr ⟨(y,c),cB e,rfl⟩,e⟩⟩
 have pW:∀c∈C,∃y,X.env.cells.lookup y=cz c/\X.fn y=rp:=λc hc=>by
  obtain⟨y,hy⟩:=memC c hc;exact⟨y,mG _ (cB hy)⟩
 have qg:∀c∈C,H c=p4:=λc hc=>by
  obtain⟨y,hy,_⟩:=pW c hc;exact I.freeC y c hy
 have nB:∀c∈C,∃ob v,s.heap.get? c=cz ob/\ob.data=.cell v:=λc hc=>by
  obtain⟨y,hy,_⟩:=pW c hc;obtain⟨v,ob,z1,z2⟩:=I.cell y c hy;exact⟨ob,v,z1,z2⟩
 have tz:∀c∈C,X.s₀.heap.objs.size<=c:=λc hc=>by
  obtain⟨y,hy,hf⟩:=pW c hc;exact I.ok.cab y c hf hy
 obtain⟨H2,rB,nt⟩:∃H2:Hp,(∀c∈C,∀ob,s.heap.get? c=cz ob->H2 c=cz (.frz ob (.own c)))/\∀b,b∉C->H2 b=H b:=
  ⟨λb=>if b∈C then (s.heap.get? b).map (λo=>HO.frz o (.own b)) else H b,λc hc ob z=>by show (if c∈C then _ else _)=_;rw[aE hc,z];rfl,λb hb=>aM hb⟩
 have mD:Same H H2:=λb o e=>by
  rw[nt b (λz=>by rw[qg b z]at e;cases e)];exact e
 have J2:Junk H2 C:=λa hm u e=>by
  obtain⟨ob,v,z1,_⟩:=nB a hm;rw[rB a hm ob z1]at e;cases e
  exact⟨ob,rfl⟩
 have qw:HOk X.prog X.w H2 s.heap:=λb o e=>by
  by_cases hb:b∈C
  ·obtain⟨ob,v,z1,_⟩:=nB b hb;rw[rB b hb ob z1]at e;cases e
   exact⟨z1,_,z1⟩
  ·rw[nt b hb]at e;exact (I.hok b o e).stay (λ_ _ _ q=>q) (λb q=>mD _ _ q) λb u q=>mD _ _ q
 have e0:Env0 X.prog X.w X.K X.mg X.base X.A X.stack s H2:=by
  have z:=I.env0;refine⟨z.frames,z.mod,λb o e=>⟨(z.bs b o e).1,?_⟩,z.bsz,z.funs,λb hb=>?_,qw,z.bare,λx hx p e=>?_⟩
  ·rw[nt b λhc=>absurd (bx (aY e) (cC I.ok.bsz (tz b hc))) (dS _)];exact (z.bs b o e).2
  ·rw[nt b λhc=>?_]
   ·exact z.frf b hb
   ·rcases aN.mp (I.stkSub b hb) with e|e
    ·obtain⟨y,hy,_⟩:=pW b hc;exact I.cne y b hy e
    ·obtain⟨_,o,ho,_⟩:=I.ok.funs.mem e;exact absurd (bx (aY ho) (tz b hc)) (dS _)
  ·obtain⟨qs,t',e1,e2⟩:=z.tabs x hx p e;exact⟨qs,t',mD _ _ e1,e2⟩
 have qZ:=q H2 C (λx y c z1 z2=>I.ok.inj x y c (mG _ (cB z1)).1 (mG _ (cB z2)).1) mD (a7a I (λy c hy ob z=>rB c (we y c hy) ob z) uK EF) (λy c hy=>by
  obtain⟨ob,v,z1,z2⟩:=nB c (we y c hy);exact⟨ob,v,rB c (we y c hy) ob z1,z2⟩) J2 nt qg
 have r2:Vals vs (us++[]):=by rw[aX];exact r
 have hl:(us++[]).length=ps.length:=by rw[<-r2.length];exact F.len _ _ _ _ qZ
 refine qd (fX (F.run X.A X.stack s H2 ⟨us,[]⟩ (us++[]) vs _ E0 hr e0 (hb s us I.kIn hl) r2 qZ) λr s' hq=>?_);cases r with
 |error e=>exact cO hq
 |ok fl=>
  cases fl with
  |next=>exact cO hq
  |brk=>exact cO hq
  |cont=>exact cO hq
  |ret u=>
   obtain⟨v,H',os,bare,un,rd,rv,qv⟩:=(show CE X.stack X.prog X.w H2 s _ u s' from hq);have fz:∀c∈C,∃ob,s.heap.get? c=cz ob/\H' c=cz (.frz ob (.own c))/\s'.heap.get? c=cz ob:=λc hc=>by
    obtain⟨ob,v,z1,_⟩:=nB c hc;have z2:=un.frzs c ob _ (rB c hc ob z1);exact⟨ob,z1,z2,(rd c _ z2).1⟩
   have J':Junk H' C:=λa hm u e=>by
    obtain⟨ob,_,z,_⟩:=fz a hm;rw[z]at e;cases e
    exact⟨ob,rfl⟩
   have n2:∀b,H b=p4->b∉C->H2 b=p4:=λb n hb=>by rw[nt b hb];exact n
   have oC:∀b u,H b=cz u->b∉C:=λb u e z=>by rw[qg b z]at e;cases e
   have Ct:Un (frs X.stack) [] H (VS.cut H' C) s.heap s'.heap:=by
    refine⟨λb o e n hb hx=>?_,λb o e n hb hx=>?_,λb o e n hx=>?_,un.there,λb xs e=>?_,λb o u e=>?_,λb ps e=>?_⟩
    ·by_cases hc:b∈C
     ·obtain⟨ob,z1,_,z3⟩:=fz b hc;rw[e]at z1;cases z1
      exact z3
     ·exact un.keep b o e (n2 b n hc) hb hx
    ·by_cases hc:b∈C
     ·obtain⟨ob,z1,_,z3⟩:=fz b hc;rw[e]at z1;cases z1
      exact⟨o.slots,z3⟩
     ·exact un.slot b o e (n2 b n hc) hb hx
    ·by_cases hc:b∈C
     ·exact V5 hc
     ·exact x4 (un.free b o e (n2 b n hc) hx)
    ·exact i7 (oC b _ e) (un.tups b xs (mD _ _ e))
    ·exact i7 (oC b _ e) (un.frzs b o u (mD _ _ e))
    ·obtain⟨more,z⟩:=un.tbls b ps (mD _ _ e);exact⟨more,i7 (oC b _ e) z⟩
   exact⟨v,VS.cut H' C,I.call' os Ct (a6Y rd J') bare (λb z=>absurd z (by simp)),rv,qv J'⟩
end
def N8(scope:gL)(env:pH):List (bM×aC):=scope.names.foldl (λcs p=>if p.2==.free then (match env.cells.lookup p.1 with|some c=>(p.1,c)::cs|none=>cs) else cs) []
def a8v:∀p∈N8 scope env,env.cells.lookup p.1=cz p.2:=by
 have key:∀(l:List (bM×jn)) (cs:List (bM×aC)),(∀p∈cs,env.cells.lookup p.1=cz p.2)->∀p∈l.foldl (λcs p=>if p.2==.free then (match env.cells.lookup p.1 with|some c=>(p.1,c)::cs|none=>cs) else cs) cs,env.cells.lookup p.1=cz p.2:=by
  intro l
  induction l with
  |nil=>intro cs h;exact h
  |cons a l ih=>
   intro cs h;rw[qL];refine ih _ λp hp=>?_
   split at hp
   ·split at hp
    ·rename_i c hc
     rcases aN.mp hp with e|e
     ·rw[e];exact hc
     ·exact h p e
    ·exact h p hp
   ·exact h p hp
 exact key _ _ λp hp=>(nomatch hp)
def b6U{X:Cx}(o_:∀x,X.fn x=rp:=by exact λ_=>rfl):c2b X (N8 scope X.env):=λp hp=>⟨a8v p hp,o_ _⟩
section
variable {X:Cx}{M:List Md}{e0:Expr}{es:List Expr}{f:EvA}{u uf:Ty}{x:bM}{p pos k_:fV}{params:oS}{body:Expr}{scope:gL}{ys:List bM}{js:List Nat}
def b6V(hx:y∈K1)(hP:A0 X.K y=cz P)(hc:X.env.code=.ref c)(hd:gM X.base c P)(hq:X.env.qual++"<lambda>"=U9 y)
  (pS:qD scope X.env=pure (N8 scope X.env):=by rfl) (uI:defaultsOf params X.env=([],[]):=by rfl) (hs:au [.Lambda params body scope k_] X.env=(xn,cI (.Lambda params body scope k_) X.env)::au [] X.env:=by rfl) :
  PAL X M [.Lambda params body scope k_] b8 λH v=>∃fa,v=.ref fa/\LamO (U9 y) params body scope (N8 scope X.env) H fa:=by
 refine⟨_,k6 (b1C hx hP hc hd hq pS uI) n8 hs,λU Y H P F ds Q S hf q=>?_⟩;cases hf
 exact λfa H' e L=>q [] (.ref fa) H' e denAll_nil ⟨fa,rfl,L⟩
def c0k(M:List Md):List Nat->Prop
 |[]=>True
 |j::js=>(∃w,M[j]?=cz (.own w))/\c0k M js
theorem a9K{K:ag}{U:List D}{Y:L2.St}{H P:Hp}{F:List aC}(S:StE K M U Y H P F):∀{js:List Nat},c0k M js->∃mC,b6T Y js mC/\DenAll K H mC (js.map λj=>U.getD j .none)
 |[],_=>⟨[],rfl,denAll_nil⟩
 |j::js,h=>by
  obtain⟨⟨w,hw⟩,h2⟩:=h;obtain⟨v,fp,e,o,_⟩:=S.get hw;obtain⟨mC,q1,q2⟩:=a9K S h2;exact⟨v::mC,⟨v,mC,rfl,e,q1⟩,denAll_cons (o.den w) q2⟩
def b6W(m:(List D->Option D)->List D->Option D)(us:List Ty)(js:List Nat)(fb:EvE)(f:EvA):EvE:=λU=>(f U).bind (m (fnE us (js.map λj=>U.getD j .none) fb))
def a8w{k kf n:Nat}{ps pl N:List bM}{q:bM}{us:List Ty}{fb:EvE}{m:(List D->Option D)->List D->Option D}
  (W:Has X.prog X.w X.K X.mg X.base x k ps (spL X.K n (λgm=>FnV X.prog X.w X.K X.mg X.base (kf+1) pl.length uf gm) m u)) (hr:Room k X.A) (h:PAL X M (e0::es) f λH v=>∃fa,v=.ref fa/\LamO q params body scope (N8 scope X.env) H fa)
  (uK:a9J X (N8 scope X.env) ys js) (hM:c0k M js) (S:LamScope N pl ys scope (N8 scope X.env)) (oX:us.length=pl.length)
  (oq:∀(pm:ai) (c:aC) (mT:ai) (us:List ai),us.length=pl.length->rH (PySem.W.kla_fn "<lambda>" q params body scope (N8 scope X.env) pm (.ref c) mT) ⟨us,[]⟩=pure (pl.zip us))
  (hb:∀(fa c:aC) (A:bN) (outer:List pH) (s:ao) (H:Hp),Room kf (A.deeper (jL q scope s.heap.objs.size fa (.ref c) (N8 scope X.env)))->PX (a9I X.prog X.w X.K X.mg X.base N q scope fa (.ref c) (N8 scope X.env) A outer s H) (us.map .own++aI ys.length (.own .f)) body fb (.new uf))
  (hfl:∀U ds,f U=cz ds->ds.length=n) (hu:u.shut=rp:=by rfl) (o_:∀x,X.fn x=rp:=by exact λ_=>rfl)
  (hg:Gl X x:=by rfl) (mH:(x==("__debug__":bM))=xn:=by decide) (he:au (e0::es) X.env=(xn,cI e0 X.env)::au es X.env:=by rfl) (gK:(cD pos (au es X.env)).any (·.1)=xn:=by rfl) :
  PX X M (.Call (.Name x p) (e0::es) [] pos) (b6W m us js fb f) (.new u):=by
 obtain⟨t,pa,qa⟩:=h;obtain⟨GR,fd,F,b,kp,CV⟩:=W.ex;refine .mk ⟨_,b3W F hr hg CV kp b pa uK (b6U o_) mH he gK,λU Y H P F d Q S' hf q=>?_⟩;obtain⟨ds,h1,hf⟩:=bnd hf;refine qa U Y H P F ds _ S' h1 λvs v H1 e1 r1 qz=>?_
 obtain⟨fa,hv,L⟩:=qz;subst hv;obtain⟨mC,c1,c2⟩:=a9K (S'.grow e1) hM;refine⟨mC,c1,λH2 C uD s2 ci FE J2 o2 n2=>?_⟩;refine⟨vs,.ref fa,_,ds,d,rfl,by rw[r1.length];exact hfl U ds h1,r1.up s2,λH' e'=>b6S (L.up (s2.trans e')) S uD (ci.up e') (λy c z=>let⟨ob,uo,w1,w2⟩:=FE y c z;⟨ob,uo,e' _ _ w1,w2⟩) (c2.up (s2.trans e')) oX oq (hb fa),hf,λv H' fp e o nd fr J'=>?_⟩;have yz:∀a∈fp,a∉C:=λa ha z=>by
  obtain⟨ys,w⟩:=o.lst u a ha;obtain⟨ob,w'⟩:=J' a z _ w;have:=ys.2;rw[w']at this;exact this
 have sm:Same H1 (VS.cut H' C):=λb o' hb=>i7 (λz=>by rw[n2 b z]at hb;cases hb) (e _ _ (s2 _ _ hb))
 refine q v (VS.cut H' C) (e1.trans sm) ⟨fp,(o.junk J' u).shut_out (λa ha=>?_) u hu,nd,λa ha=>?_⟩
 ·rcases ay.mp ha with z|z
  ·exact (o.junk J' u).lst u a z
  ·exact S'.lst' (e1.trans sm) a z
 ·have:=fr a ha;rw[o2 a (yz a ha)]at this;exact e1.free this
end
def b3X{P:bA}{w:bQ}{K:ag}{mg:bM->Option ai}{base:cM}{x:bM}{st:iO}{f:aC}{fd:dU}{N ps:List bM}{k n:Nat}{us:List Ty}{u:Ty}{g:EvS}{M':List Md}(F:Fun K x x st f fd)(S:FnScope N ps (f8 st))(oX:us.length=ps.length)(hn:N.length=ps.length+n)
  (hb:∀(A:bN) (outer:List pH) (s:ao) (H:Hp) (E:XK),Room k (A.deeper (jD x (f8 st) s.heap.objs.size f fd.code))->PSsX (a0z CX0 P w K mg base N x (f8 st) f fd.code A outer s H E).nox u [] (us.map .own++aI n .dead) (u7 st) g M') :
  FnOk P w K mg base CX0 (k+1) f fd ps (spD K ps.length (fnD us n g) u):=by
 obtain⟨oc,od,kV,doc,pm,an,gH,ct,qm,rfl,lk,nI⟩:=F.ex;refine b7X lk nI S (λvs H Q E ⟨ds,d,hl,_⟩=>hl) λA outer s H vs Q E hr qz=>?_
 obtain⟨ds,d,hl,hd,hm,q⟩:=qz;obtain⟨t,p,r⟩:=(hb A outer s H E hr).out;refine⟨t,p.nox,?_⟩;unfold fnD at hm;by_cases ha:argsOk us ds=rp
 ·rw[aE ha]at hm;obtain⟨o,h1,h2⟩:=bnd hm;cases o with
  |rt d'=>
   have ox:cz d'=cz d:=h2;cases ox
   have e:L2.start N vs=vs.map cz++aI n p4:=by
    unfold L2.start;rw[show N.length-vs.length=n by lia]
   rw[e];refine r _ (ds++aI n iQ) _ H H [] (.rt d) ⟨⟨[],Q8 ha hd n,bE,λa ha=>(nomatch ha)⟩,λa ha=>(nomatch ha),by rw[H9];exact Same.refl H⟩ h1 ?_;exact λv H' fp o nd fr e=>q v H' fp e o nd fr
  |_=>cases h2
 ·rw[aM ha]at hm;cases hm
def b3Y{K:ag}{base:cM}{fd:dU}(e:(A0 K x).isSome=rp)(X:K.In base)(G:base.Ns bU mg)(a:gS K bU x=cz (cz (.ref f)))(l:K.lookup f=cz ⟨oc,od,.func fd,sl⟩) :
  ∃c p,fd.code=.ref c/\A0 K x=cz p/\gM base c p:=by
 obtain⟨p,hp⟩:=kP.mp e;obtain⟨f',Gn,Gm,BQ,AO,c,h1,h2,h3,h4⟩:=a4A hp X G;have h5:=kM X G a;rw[h1]at h5;cases h5
 rw[l]at h2;cases h2
 exact⟨c,p,h3,hp,h4⟩
end VS
namespace VS
abbrev Up(xs:List Nat):Prop:=xs.Pairwise (· < ·)
def AtB(xs:List Nat)(j p:Nat):Prop:=p<=xs.length/\(∀i (h:i<xs.length),i<p->xs[i]<j)/\∀i (h:i<xs.length),p<=i->¬ xs[i]<j
def a2a(h:Up xs)(hk:k<xs.length)(hi:i<k):xs[i]<xs[k]:=ku.mp h i k (by lia) hk hi
def AtB.uniq(a:AtB xs j p)(b:AtB xs j q):p=q:=by
 rcases oG p q with c|c|c
 ·exact absurd (b.2.1 p (by have:=b.1;lia) c) (a.2.2 p (by have:=b.1;lia) (az _))
 ·exact c
 ·exact absurd (a.2.1 q (by have:=a.1;lia) c) (b.2.2 q (by have:=a.1;lia) (az _))
def b3Z{xs:Array Nat}(hs:Up xs.toList):∀(f lo hi:Nat),lo<=hi->hi<=xs.size->hi<=lo+f->(∀i (h:i<xs.toList.length),i<lo->xs.toList[i]<j)->(∀i (h:i<xs.toList.length),hi<=i->¬ xs.toList[i]<j)->
  AtB xs.toList j (rL xs j f lo hi):=by
 intro f
 induction f with
 |zero=>
  intro lo hi h1 h2 h3 a b;have e:lo=hi:=by lia
  subst e;rw[rL];exact⟨by simpa using h2,a,b⟩
 |succ f ih=>
  intro lo hi h1 h2 h3 a b;rw[rL];by_cases c:lo<hi
  ·rw[aE c];have hm:(lo+hi) / 2<xs.size:=by lia
   have vt:(lo+hi) / 2<xs.toList.length:=by simpa using hm
   have eg:xs.getD ((lo+hi) / 2) j=xs.toList[(lo+hi) / 2]:=by simp[iZ,hm]
   simp only[eg];by_cases d:xs.toList[(lo+hi) / 2]<j
   ·rw[aE d];refine ih _ _ (by lia) h2 (by lia) (λi lG hl=>?_) b;rcases bK i ((lo+hi) / 2) with z|z
    ·exact gT (a2a hs vt z) d
    ·have:i=(lo+hi) / 2:=by lia
     subst this;exact d
   ·rw[aM d];refine ih _ _ (by lia) (by lia) (by lia) a (λi lG hl=>?_);rcases bK ((lo+hi) / 2) i with z|z
    ·have:=a2a hs lG z;lia
    ·have:i=(lo+hi) / 2:=by lia
     subst this;exact d
  ·rw[aM c];have e:lo=hi:=by lia
   subst e;exact⟨by simpa using h2,a,b⟩
def below_at{xs:Array Nat}(hs:Up xs.toList)(j:Nat):AtB xs.toList j (lx xs j):=by
 unfold lx;exact b3Z hs _ _ _ (bL _) (az _) (by lia) (λi _ h=>by lia) (λi h h'=>by simp at h;lia)
def c0l(hs:Up xs)(h:AtB xs j p)(hj:j∉xs):Up (xs.take p++j::xs.drop p):=by
 have h1:∀x∈xs.take p,x<j:=λx hx=>by
  obtain⟨i,hi,rfl⟩:=eN.mp hx;rw[dO]at hi;rw[Ci];exact h.2.1 i (by lia) (by lia)
 have h2:∀x∈xs.drop p,j<x:=λx hx=>by
  obtain⟨i,hi,rfl⟩:=eN.mp hx;rw[gU]at hi;have z:=h.2.2 (p+i) (by lia) (by lia);rw[oJ];have:xs[p+i]'(by lia)≠j:=λe=>hj (e▸dh _)
  lia
 rw[Up,du,gg];refine⟨hs.take,⟨h2,hs.drop⟩,λa ha b hb=>?_⟩;rcases aN.mp hb with rfl|hb
 ·exact h1 a ha
 ·exact gT (h1 a ha) (h2 b hb)
def a5K(f:Nat->Option Nat):Up (((aw n).filterMap λj=>(f j).map (j,·)).map (·.1)):=by
 rw[Up,iB,List.pairwise_filterMap];refine lQ.imp λ{a b} Ai x hx y hy=>?_
 obtain⟨_,_,rfl⟩:=dN.mp hx;obtain⟨_,_,rfl⟩:=dN.mp hy;exact Ai
end VS
namespace VS
open PySem.Spec L2
section
variable {prog:bA}{w:bQ}{A:bN}{E:ai->ao->Prop}{sh:ao}{R:xM->ao->Prop}{I:aC}{fp wr:List aC}{G:Array xT->Array xT->Prop}{n:Nat}{P:Nat->ai->Prop}{St:Nat->ao->Prop}
def a3q(w:bQ):gc:={cls:=.type "set",dict:=p4,data:=.set #[] 0 (.fresh 0 0 (!w.params.followText "set-order"))}
def b6X(a:ai)(h:Q (.ref sh.heap.objs.size) {sh with heap:=sh.heap.push (a3q w)}) :
  kJ (a_ prog w) A (.call (.builtin "set.__new__") ⟨[.type "set",a],[]⟩) (wants Q E) sh:=by
 refine codeAny_of_tree (show aW _ A.in1 (checkBuiltinCall "set.__new__" ⟨[.type "set",a],[]⟩ >>= λ_=>again (.builtin "set.__new__" ⟨[.type "set",a],[]⟩)) _ _ sh from ?_);refine ae (wpAny_of_eq (by exact F.newCall_set_1 a) (aA ⟨yR (by exact F.plain_set_new) _,iM (by exact F.entry_set_new) ?_⟩));rw[h_ (by exact F.plain_set_new) _];unfold Builtin.«set.__new__»;unfold Builtin.Frozenset.newClass;have mG:=@sub_set_self;obtain⟨hp,g,d,tk,os⟩:=sh
 dsimp only
 wp_walk
 refine wpAny_askSetting (aA (by
  dsimp only
  simp only[newObj];exact ae (wpAny_alloc (aA (aA h)))))
end
end VS
namespace VS
def lpN(m:Nat)(h:Int):Nat->Nat×Nat
 |0=>(eQ h % (m+1),eQ h)
 |c+1=>jh.leap m (lpN m h c).1 (lpN m h c).2
def lpI(m:Nat)(h:Int)(c:Nat):Nat:=(lpN m h c).1
def rl(m i:Nat):Nat:=kr m i-i
def qP(m:Nat)(h:Int):Nat->Nat×Nat
 |0=>(0,0)
 |n+1=>if (qP m h n).2<rl m (lpI m h (qP m h n).1) then ((qP m h n).1,(qP m h n).2+1) else ((qP m h n).1+1,0)
def jP(m:Nat)(h:Int)(n:Nat):Nat:=lpI m h (qP m h n).1+(qP m h n).2
def prb(m:Nat)(h:Int)(n:Nat):jh.Probe:={j:=jP m h n,more:=rl m (lpI m h (qP m h n).1)-(qP m h n).2,i:=lpI m h (qP m h n).1,perturb:=(lpN m h (qP m h n).1).2,dummy:=p4}
def b4a(m i:Nat):rl m i<=9:=by unfold rl kr;split<;>lia
def b4b(m:Nat)(h:Int)(n:Nat):(qP m h n).2<=rl m (lpI m h (qP m h n).1):=by
 cases n with
 |zero=>exact bL _
 |succ n=>
  rw[qP]
  split
  ·rename_i c;exact c
  ·exact bL _
def a9L(t:jh)(h:Int)(n:Nat):t.advance (prb t.mask h n)=prb t.mask h (n+1):=by
 unfold jh.advance;by_cases c:(qP t.mask h n).2<rl t.mask (lpI t.mask h (qP t.mask h n).1)
 ·rw[aE (show (prb t.mask h n).more>0 from Nat.sub_pos_of_lt c)];have e:qP t.mask h (n+1)=((qP t.mask h n).1,(qP t.mask h n).2+1):=by rw[qP,aE c]
  unfold prb jP;rw[e];simp only[jh.Probe.mk.injEq,and_true];exact⟨by lia,by lia⟩
 ·rw[aM (show ¬ (prb t.mask h n).more>0 from by show ¬ (_-_>0);lia)];have e:qP t.mask h (n+1)=((qP t.mask h n).1+1,0):=by rw[qP,aM c]
  unfold prb jP;rw[e];rfl
theorem a3r(e:qP m h n=(c,0)):∀k,k<=rl m (lpI m h c)->qP m h (n+k)=(c,k)
 |0,_=>e
 |k+1,hk=>by
  have ih:=a3r e k (by lia);show qP m h ((n+k)+1)=_;rw[qP,ih,aE (show k<rl m (lpI m h c) by lia)]
theorem a9M(m:Nat)(h:Int):∀c,∃n,n<=10*c/\qP m h n=(c,0)
 |0=>⟨0,az _,rfl⟩
 |c+1=>by
  obtain⟨n,hn,e⟩:=a9M m h c;refine⟨n+rl m (lpI m h c)+1,by have:=b4a m (lpI m h c);lia,?_⟩;rw[qP,a3r e _ (az _),aM (dS _)]
def b6Y(h:Int):eQ h<2^64:=by
 unfold eQ;have:=eG h (show (0:Int)<2^64 by decide);have:=fK h (show (2^64:Int)≠0 by decide);lia
theorem a7b(m:Nat)(h:Int):∀c,(lpN m h c).2=eQ h / 32^c
 |0=>by rw[lpN,Nat.pow_zero,Nat.div_one]
 |c+1=>by
  show (lpN m h c).2 / 32=_;rw[a7b m h c,Nat.div_div_eq_div_mul,Nat.pow_succ]
def b1D(m:Nat)(h:Int)(hc:13<=c):(lpN m h c).2=0:=by
 rw[a7b];refine Nat.div_eq_of_lt (bx (b6Y h) (cC (show 2^64<=32^13 by decide) (mN (by decide) hc)))
def itr(m:Nat):Nat->Nat->Nat
 |0,i=>i
 |r+1,i=>(itr m r i*5+1) % (m+1)
theorem a9N(m:Nat)(h:Int):∀r,lpI m h (13+r)=itr m r (lpI m h 13)
 |0=>rfl
 |r+1=>by
  show ((lpN m h (13+r)).1*5+1+(lpN m h (13+r)).2 / 32) % (m+1)=_;rw[b1D m h (by lia),Nat.zero_div,uS,itr,<-a9N m h r];rfl
def b4c(m:Nat)(h:Int)(c:Nat):lpI m h c<m+1:=by
 cases c with
 |zero=>exact Nat.mod_lt _ (Nat.succ_pos _)
 |succ c=>exact Nat.mod_lt _ (Nat.succ_pos _)
def okM(m:Nat):Prop:=m=7\/m=31\/m=127\/m=511
def orb(m:Nat):Nat->Nat->List Nat
 |0,_=>[]
 |n+1,i=>i::orb m n ((i*5+1) % (m+1))
theorem a0V(m i r:Nat):∀s,itr m s (itr m r i)=itr m (r+s) i
 |0=>rfl
 |s+1=>by
  show (itr m s (itr m r i)*5+1) % (m+1)=_;rw[a0V m i r s];rfl
theorem a5L:∀n i,x∈orb m n i->∃r,r<n/\itr m r i=x
 |0,_,h=>(nomatch h)
 |n+1,i,h=>by
  rcases aN.mp h with rfl|h
  ·exact⟨0,by lia,rfl⟩
  ·obtain⟨r,hr,e⟩:=a5L n _ h;exact⟨1+r,by lia,by rw[<-a0V];exact e⟩
def b4d(hm:okM m):itr m (m+1) 0=0/\∀j,j<m+1->j∈orb m (m+1) 0:=by
 rcases hm with rfl|rfl|rfl|rfl<;>decide +kernel
def b6Z(hm:okM m)(i:Nat)(hi:i<m+1)(j:Nat)(hj:j<m+1):∃r,r<m+1/\itr m r i=j:=by
 obtain⟨z,h⟩:=b4d hm;obtain⟨s,hs,rfl⟩:=a5L _ _ (h i hi);obtain⟨t,ht,rfl⟩:=a5L _ _ (h j hj);rcases bK t s with c|c
 ·exact⟨m+1-s+t,by lia,by rw[<-a0V m _ (m+1-s),a0V m 0 s,show s+(m+1-s)=m+1 by lia,z]⟩
 ·exact⟨t-s,by lia,by rw[a0V,show s+(t-s)=t by lia]⟩
def b4e(hm:okM m)(h:Int)(hj:j<m+1):∃c,c<m+15/\lpI m h c=j:=by
 obtain⟨r,hr,e⟩:=b6Z hm (lpI m h 13) (b4c _ _ _) j hj;exact⟨13+r,by lia,by rw[a9N];exact e⟩
def c0m(hm:okM m)(h:Int)(hj:j<m+1):∃n,n<10*(m+15)/\jP m h n=j:=by
 obtain⟨c,hc,e⟩:=b4e hm h hj;obtain⟨n,hn,q⟩:=a9M m h c;exact⟨n,by lia,by unfold jP;rw[q];exact e⟩
def b8f(m:Nat)(h:Int)(n:Nat):jP m h n<m+1:=by
 have a:=b4b m h n;have b:=b4c m h (qP m h n).1;unfold jP;unfold rl kr at a
 split at a<;>lia
def a8x(hm:okM m)(h:Int){L:List Nat}(hL:L.length<=m):∃e,e<10*(m+15)/\jP m h e∉L/\∀k,k<e->jP m h k∈L:=by
 have ex:∃j,j<m+1/\j∉L:=by
  apply dA;intro c;have hs:aw (m+1) ⊆ L:=λj hj=>dA λn=>c ⟨j,bu.mp hj,n⟩
  have:=(pF (n:=m+1)).length_le_of_subset hs;rw[bB]at this;lia
 obtain⟨j,hj,nj⟩:=ex;obtain⟨n,hn,e⟩:=c0m hm h hj;have key:∀n,jP m h n∉L->∃e,e<=n/\jP m h e∉L/\∀k,k<e->jP m h k∈L:=by
  intro n
  induction n using GZ with
  |ind n ih=>
   intro hn;by_cases c:∃k,k<n/\jP m h k∉L
   ·obtain⟨k,hk,uC⟩:=c;obtain⟨e,he,x⟩:=ih k hk uC;exact⟨e,by lia,x⟩
   ·exact⟨n,az _,hn,λk hk=>dA λz=>c ⟨k,hk,z⟩⟩
 obtain⟨e',he,x,y⟩:=key n (by rw[e];exact nj);exact⟨e',by lia,x,y⟩
def slot_of{t:jh}(hs:Up t.place.toList)(hd:t.dummies=#[])(j:Nat):(j∉t.place.toList/\t.slot j=.empty)\/∃i,t.place[i]?=cz j/\t.slot j=.live i:=by
 unfold jh.slot
 dsimp only
 by_cases c:t.place[lx t.place j]?=cz j
 ·exact .inr ⟨_,c,by rw[aE (by rw[c];exact pB _)]⟩
 ·refine .inl ⟨λhj=>c ?_,?_⟩
  ·obtain⟨i,hi,e⟩:=eN.mp hj;have hb:lx t.place j=i:=by
    refine (below_at hs j).uniq ⟨eJ hi,λk hk z=>?_,λk hk z=>?_⟩
    ·have:=a2a hs hi z;lia
    ·rcases bK i k with y|y
     ·have:=a2a hs hk y;lia
     ·have:k=i:=by lia
      subst this;lia
   rw[hb,<-e,<-bh,ab hi]
  ·rw[aM (by simpa using c),aM];unfold FI;rw[hd];simp
def c2c{t:jh}(hu:Up t.place.toList)(hd:t.dummies=#[]):∀f n e,n<=e->e<n+f->jP t.mask h e∉t.place.toList->(∀k,n<=k->k<e->jP t.mask h k∈t.place.toList)->
  (jf t hs h f (prb t.mask h n)=cz (.empty (jP t.mask h e) p4)/\∀k,n<=k->k<e->∀i,t.place[i]?=cz (jP t.mask h k)->hs i≠h)\/
  ∃q i,n<=q/\q<e/\t.place[i]?=cz (jP t.mask h q)/\t.slot (jP t.mask h q)=.live i/\hs i=h/\jf t hs h f (prb t.mask h n)=cz (.candidate (jP t.mask h q) i (prb t.mask h (q+1)))/\∀k,n<=k->k<q->∀i,t.place[i]?=cz (jP t.mask h k)->hs i≠h:=by
 intro f
 induction f with
 |zero=>intro n e h1 h2;lia
 |succ f ih=>
  intro n e h1 h2 h3 h4;rw[jf];have uniq:∀{i k j:Nat},t.place[i]?=cz j->t.place[k]?=cz j->i=k:=λ{i k j} a b=>by
   rw[<-bh]at a b;obtain⟨a1,a2⟩:=aD.mp a;obtain⟨b1,b2⟩:=aD.mp b;rcases oG i k with z|z|z
   ·have:=a2a hu b1 z;lia
   ·exact z
   ·have:=a2a hu a1 z;lia
  rcases slot_of hu hd (jP t.mask h n) with⟨a,b⟩|⟨i,a,b⟩
  ·have:n=e:=by
    apply dA;intro c;exact a (h4 n (az _) (by lia))
   subst this;rw[show t.slot (prb t.mask h n).j=.empty from b];exact .inl ⟨rfl,λk k1 k2=>by lia⟩
  ·have i_:n≠e:=λc=>by
    subst c;exact h3 (by rw[<-bh]at a;exact bo a)
   rw[show t.slot (prb t.mask h n).j=.live i from b]
   dsimp only
   by_cases c:hs i=h
   ·rw[aE (by simpa using c)];exact .inr ⟨n,i,az _,by lia,a,b,c,by rw[a9L];rfl,λk k1 k2=>by lia⟩
   ·rw[aM (by simpa using c),a9L];have here:∀i',t.place[i']?=cz (jP t.mask h n)->hs i'≠h:=λi' e'=>by rw[uniq e' a];exact c
    rcases ih (n+1) e (by lia) (by lia) h3 (λk k1 k2=>h4 k (by lia) k2) with⟨x,y⟩|⟨q,i2,q1,q2,q3,q4,q5,q6,q7⟩
    ·refine .inl ⟨x,λk k1 k2 i'=>?_⟩;rcases bK n k with z|z
     ·exact y k z k2 i'
     ·have:k=n:=by lia
      subst this;exact here i'
    ·refine .inr ⟨q,i2,by lia,q2,q3,q4,q5,q6,λk k1 k2 i'=>?_⟩;rcases bK n k with z|z
     ·exact q7 k z k2 i'
     ·have:k=n:=by lia
      subst this;exact here i'
end VS
namespace VS
open PySem.Spec L2
section
variable {prog:bA}{w:bQ}{A:bN}{E:ai->ao->Prop}{s:ao}
abbrev TK(prog:bA)(w:bQ)(h:cM)(ks:List Int)(a:aC):Prop:=IsTupleKey (fH prog w) h ks a
abbrev hT(prog:bA)(w:bQ)(ks:List Int):Int:=tupleKeyHash (fH prog w) ks
def items_int(h:ItemsAre (fH prog w) ks vs):∀v∈vs,∃n t,v=.int n t:=by
 induction h with
 |nil=>intro v hv;cases hv
 |cons h1 _ ih=>
  intro v hv;rcases aN.mp hv with rfl|hv
  ·obtain⟨t,rfl⟩:=rJ h1;exact⟨_,t,rfl⟩
  ·exact ih v hv
def a9O(hk:TK prog w s.heap ks a)(h:Q xn s):aW (a_ prog w) A (ofAClassStatement 8 (.ref a)) Q E s:=by
 have hT:=hk.typeIs;obtain⟨o,items,n,ho,_,hd,hi⟩:=hk;unfold ofAClassStatement;refine ae (wpAny_typeOf hT ?_)
 dsimp only
 refine ae (aA ?_);simp only[er,be,cH];refine ae (vT ho hd ?_)
 dsimp only
 refine ae ?_;show aW _ _ (forIn items _ _) _ _ s;rw[<-gj];refine jI _ (λrest r s'=>r.1=p4/\s'=s/\∀v∈rest,∃n t,v=gq n t) _ ?_ ?_ _ _ ⟨rfl,rfl,items_int hi⟩
 ·rintro v rest r s' ⟨hr,rfl,gR⟩;obtain⟨i,t,rfl⟩:=gR v aK;refine ae (show aW _ _ (pure xn) _ _ _ from aA ?_);simp only[be,cH];exact aA ⟨rfl,rfl,λu hu=>gR u (ar _ hu)⟩
 ·rintro⟨r1,r2⟩ s' ⟨hr,rfl,_⟩;simp only at hr;subst hr;exact aA h
def b7a(hk:TK prog w s.heap ks a)(h:Q rp s):aW (a_ prog w) A (tG 8 (.ref a)) Q E s:=by
 have hT:=hk.typeIs;obtain⟨o,items,n,ho,_,hd,hi⟩:=hk;unfold tG;refine ae (iJ hT jt.lookup ?_)
 dsimp only
 refine ae (vT ho hd ?_);refine ae ?_;show aW _ _ (forIn items _ _) _ _ s;rw[<-gj];refine jI _ (λrest r s'=>r.1=p4/\s'=s/\∀v∈rest,∃n t,v=gq n t) _ ?_ ?_ _ _ ⟨rfl,rfl,items_int hi⟩
 ·rintro v rest r s' ⟨hr,rfl,gR⟩;obtain⟨i,t,rfl⟩:=gR v aK;rw[show tG 7 (gq i t)=pure rp from by unfold tG;rfl];refine ae (aA ?_);simp only[er,be,cH];exact aA ⟨rfl,rfl,λu hu=>gR u (ar _ hu)⟩
 ·rintro⟨r1,r2⟩ s' ⟨hr,rfl,_⟩;simp only at hr;subst hr;exact aA h
def c0n(hx:TK prog w s.heap kx ax)(hy:∀y∈ys,∃b ky,y=.ref b/\TK prog w s.heap ky b)(h:Q xn s):aW (a_ prog w) A (searchCouldBeSeen (.ref ax) ys) Q E s:=by
 unfold searchCouldBeSeen;refine ae ?_;refine jI _ (λrest r s'=>r.1=p4/\s'=s/\∀y∈rest,∃b ky,y=bt b/\TK prog w s.heap ky b) _ ?_ ?_ _ _ ⟨rfl,rfl,hy⟩
 ·rintro v rest r s' ⟨hr,rfl,gR⟩;obtain⟨b,ky,rfl,hb⟩:=gR v aK;have sY:∀y∈rest,∃b ky,y=bt b/\TK prog w s'.heap ky b:=λu hu=>gR u (ar _ hu)
  dsimp only
  split
  ·exact aA ⟨rfl,rfl,sY⟩
  ·refine ae (F_ hx ?_);simp only[er,be,cH];refine ae (F_ hb ?_);simp only[er,be,cH];refine ae (a9O hx ?_);simp only[be,cH];refine ae (a9O hb ?_);simp only[be,cH];exact aA ⟨rfl,rfl,sY⟩
 ·rintro⟨r1,r2⟩ s' ⟨hr,rfl,_⟩;simp only at hr;subst hr;exact aA h
end
abbrev a5M:=(Int×ai)×Nat×List Int
def Pth(m:Nat)(h:Int)(j:Nat)(L:List Nat):Prop:=∃n,n<10*(m+15)/\jP m h n=j/\∀k,k<n->jP m h k∈L
structure TabT (t:jh) (es:Array (Int×ai)) (Z:List a5M):Prop where
 mask:okM t.mask
 dum:t.dummies=#[]
 few:Z.length<=t.mask
 up:Up t.place.toList
 pl:t.place.toList=Z.map (·.2.1)
 es:es.toList=Z.map (·.1)
 pth:∀z∈Z,Pth t.mask z.1.1 z.2.1 t.place.toList
theorem TabT.fits{t:jh}{es:Array (Int×ai)}(T:TabT t es Z):t.fits es.size=rp:=by
 have a:t.place.size=Z.length:=by rw[<-aJ,T.pl,af]
 have b:es.size=Z.length:=by rw[<-aJ,T.es,af]
 have c:t.fill=Z.length:=by unfold jh.fill;rw[T.dum,a];rfl
 unfold jh.fits;rw[a,b,c];simp[T.few]
def TabT.row{t:jh}{es:Array (Int×ai)}{Z:List a5M}(T:TabT t es Z){i j:Nat}(h:t.place[i]?=cz j):∃z∈Z,es[i]?=cz z.1/\z.2.1=j/\Z[i]?=cz z:=by
 rw[<-bh,T.pl,aQ]at h;obtain⟨z,hz,e⟩:=dN.mp h;exact⟨z,bo hz,by rw[<-bh,T.es,aQ,hz];rfl,e,hz⟩
section
variable {prog:bA}{w:bQ}{A:bN}{E:ai->ao->Prop}{s:ao}
def a9P(prog:bA)(w:bQ)(h:cM)(Z:List a5M):Prop:=∀z∈Z,z.1.1=hT prog w z.2.2/\∃b,z.1.2=.ref b/\TK prog w h z.2.2 b
def b4f{o:gc}{t:jh}{Z:List a5M}{Q:SetFound->ao->Prop}(ho:s.heap.get? a=cz o)(hd:o.data=.set es ep t)(T:TabT t es Z)(R:a9P prog w s.heap Z)(hx:TK prog w s.heap kx ax)(hu:A.units<dF)
  (he:e<10*(t.mask+15)) (h1:jP t.mask (hT prog w kx) e∉t.place.toList) (h2:∀k,k<e->jP t.mask (hT prog w kx) k∈t.place.toList) (q1:kx∈Z.map (·.2.2)->Q (.there p4) s) (q2:kx∉Z.map (·.2.2)->Q (.free (jP t.mask (hT prog w kx) e) xn) s) :
  ∀(F n:Nat) (st:Option jh.Probe),st.getD (t.probeStart (hT prog w kx))=prb t.mask (hT prog w kx) n->n<=e->e-n<F->(∀k,k<n->∀z∈Z,z.2.1=jP t.mask (hT prog w kx) k->z.2.2≠kx)->aW (a_ prog w) A (pK a (.ref ax) (hT prog w kx) rp F st) Q E s:=by
 intro F
 induction F with
 |zero=>intro n st _ _ h;lia
 |succ F ih=>
  intro n st Fn hn hF qy;have hf:=T.fits;have gw:t.gaveWay=xn:=by unfold jh.gaveWay;rcases T.mask with m|m|m|m<;>rw[m]<;>rfl
  unfold pK;refine ae (jc ho hd hf ?_)
  dsimp only
  rw[gw];simp only[be,cH];rw[Fn];unfold jh.probe;have hs:∀i j,t.place[i]?=cz j->∃z∈Z,es[i]?=cz z.1/\z.2.1=j/\((es[i]?).map (λe:Int×ai=>e.1)).getD 0=z.1.1:=λi j hi=>by
   obtain⟨z,z1,z2,z3,_⟩:=T.row hi;exact⟨z,z1,z2,z3,by rw[z2];rfl⟩
  have g:=c2c (t:=t) (hs:=λi=>((es[i]?).map (λe:Int×ai=>e.1)).getD 0) (h:=hT prog w kx) T.up T.dum (10*eW t.mask) n e hn (by unfold eW;lia) h1 (λk _ k2=>h2 k k2);rcases g with⟨g1,g2⟩|⟨q,i,g1,g2,g3,g4,g5,g6,g7⟩
  ·have vK:jf t _ (hT prog w kx) (10*eW t.mask) (prb t.mask (hT prog w kx) n)=_:=g1
   erw[vK]
   dsimp only
   refine aA (q2 λc=>?_);obtain⟨z,hz,ez⟩:=aG.mp c;obtain⟨n',_,p1,p2⟩:=T.pth z hz;have eh:z.1.1=hT prog w kx:=by rw[(R z hz).1,ez]
   rw[eh]at p1 p2;have lt:n'<e:=by
    apply dA;intro z';rcases bK e n' with y|y
    ·exact h1 (p2 e y)
    ·have:n'=e:=by lia
     subst this;exact h1 (by rw[p1,T.pl];exact aG.mpr ⟨z,hz,rfl⟩)
   rcases bK n' n with y|y
   ·exact qy n' y z hz p1.symm ez
   ·obtain⟨i,hi⟩:=gO hz;have pi:t.place[i]?=cz z.2.1:=by rw[<-bh,T.pl,aQ,hi];rfl
    refine g2 n' y lt i (by rw[p1];exact pi) ?_;show ((es[i]?).map (λe:Int×ai=>e.1)).getD 0=_;rw[<-bh,T.es,aQ,hi];exact eh
  ·have Fi:jf t _ (hT prog w kx) (10*eW t.mask) (prb t.mask (hT prog w kx) n)=_:=g6
   erw[Fi]
   dsimp only
   obtain⟨z,hz,z2,z3,z4⟩:=T.row g3;obtain⟨r1,b,r2,r3⟩:=R z hz;have tail:aW (a_ prog w) A (do
     let cz (_,y):=es[i]?|sV "internal:set-entry"
     let equal <-lW [y] (eqBool y (.ref ax))
     let (es',_,t') <-setState a
     if rp&&equal then return .there p4
     let cz same:=t'.sameMemory t.moves t.mask|sV "set.changed-during-lookup:is-the-new-block-at-the-old-address"
     let vV <-match (if same then t'.slot (jP t.mask (hT prog w kx) q) else .empty) with
      |.live i'=>match es'[i']? with
       |some (_,y')=>do pure (if <-isSame y' y then cz i' else p4)
       |none=>pure p4
      |_=>pure p4
     match vV with
     |none=>rule "set.search.anew";pK a (.ref ax) (hT prog w kx) rp F p4
     |some i'=>if equal then return .there (cz i') else pK a (.ref ax) (hT prog w kx) rp F (cz (prb t.mask (hT prog w kx) (q+1)))) Q E s:=by
    rw[z2,show z.1=(z.1.1,bt b) from xN rfl r2]
    dsimp only
    refine ae (cK (wpAny_eqBool_tuple hu r3 hx ?_));refine ae (jc ho hd hf ?_)
    dsimp only
    by_cases c:z.2.2=kx
    ·rw[aE (by simpa using c)];exact aA (q1 (aG.mpr ⟨z,hz,c⟩))
    ·rw[aM (by simpa using c)];have sm:t.sameMemory t.moves t.mask=cz rp:=by unfold jh.sameMemory;rw[aE (pB _)]
     rw[sm]
     dsimp only
     rw[aE rfl,g4]
     dsimp only
     rw[z2,show z.1=(z.1.1,bt b) from xN rfl r2]
     dsimp only
     refine ae (wpAny_isSame_ref_self (ae (aA ?_)));rw[aE rfl]
     dsimp only
     rw[aM (by simpa using c)];refine ih (q+1) _ rfl (by lia) (by lia) λk hk z' nq e'=>?_
     rcases bK k n with y|y
     ·exact qy k y z' nq e'
     ·obtain⟨i',lG⟩:=gO nq;have pi:t.place[i']?=cz z'.2.1:=by rw[<-bh,T.pl,aQ,lG];rfl
      rcases bK k q with x|x
      ·intro ek;refine g7 k y x i' (by rw[pi,e']) ?_;show ((es[i']?).map (λe:Int×ai=>e.1)).getD 0=_;rw[<-bh,T.es,aQ,lG];show z'.1.1=_;rw[(R z' nq).1,ek]
      ·have:k=q:=by lia
       subst this;have ii:i'=i:=by
        rw[<-bh]at pi g3;obtain⟨a1,a2⟩:=aD.mp pi;obtain⟨b1,b2⟩:=aD.mp g3;rcases oG i' i with u|u|u
        ·have:=a2a T.up b1 u;lia
        ·exact u
        ·have:=a2a T.up a1 u;lia
       subst ii;have:z'=z:=aF (lG.symm.trans z4);subst this;exact c
   cases hl:t.led with
   |true=>
    simp only[er,be,cH];exact tail
   |false=>
    simp only[rV,qO];refine ae (c0n hx (λy hy=>?_) ?_)
    ·obtain⟨e0,ym,rfl⟩:=aG.mp hy;have BA:e0∈es.toList:=(Array.mem_filter.mp (fS.mp ym)).1 |> fS.mpr;rw[T.es]at BA;obtain⟨z',nq,rfl⟩:=aG.mp BA;obtain⟨_,b',e1,e2⟩:=R z' nq;exact⟨b',_,e1,e2⟩
    ·simp only[be,cH];exact tail
end
end VS
namespace VS
theorem b4g(m:Nat)(h:Int):∀n,n<=10*(qP m h n).1+(qP m h n).2
 |0=>bL _
 |n+1=>by
  have ih:=b4g m h n;have a:=b4b m h n;have b:=b4a m (lpI m h (qP m h n).1);rw[qP]
  split
  ·dsimp only;lia
  ·dsimp only;lia
def c0o(m i:Nat):kr m i+1-i=rl m i+1:=by unfold rl kr;split<;>lia
def b7b{ow:Array (Option Nat)}:∀(f c n0:Nat),qP m h n0=(c,0)->(∃c',c<=c'/\c'<c+f/\ow.getD (lpI m h c') (cz 0)=p4)->
  ∃n,gI m ow f (lpN m h c).1 (lpN m h c).2=cz (jP m h n)/\ow.getD (jP m h n) (cz 0)=p4/\n0<=n/\(qP m h n).1<c+f/\∀k,n0<=k->k<n->ow.getD (jP m h k) (cz 0)≠p4:=by
 intro f
 induction f with
 |zero=>rintro c n0 _ ⟨c',a,b,_⟩;lia
 |succ f ih=>
  rintro c n0 e ⟨c',a,b,d⟩;have jr:∀k,k<=rl m (lpI m h c)->jP m h (n0+k)=lpI m h c+k:=λk hk=>by unfold jP;rw[a3r e k hk]
  rw[gI,c0o];cases hf:(aw (rl m (lpN m h c).1+1)).find? λk=>(ow.getD ((lpN m h c).1+k) (cz 0)).isNone with
  |some k=>
   dsimp only
   have h1:=G_ hf;have h2:=bu.mp (sf hf);have hk:k<=rl m (lpI m h c):=by show k<=rl m (lpN m h c).1;lia
   refine⟨n0+k,by rw[jr k hk];rfl,?_,by lia,by rw[a3r e k hk];show c<_;lia,λk' k1 k2=>?_⟩
   ·rw[jr k hk];exact sd.mp h1
   ·obtain⟨r,rfl⟩:∃r,k'=n0+r:=⟨k'-n0,by lia⟩;rw[jr r (by lia)];intro z;have hp:=(List.find?_range_eq_some (i:=k) (n:=rl m (lpN m h c).1+1)).mp hf;have:=hp.2.2 r (by lia);rw[show ow.getD ((lpN m h c).1+r) (cz 0)=p4 from z]at this;simp at this
  |none=>
   dsimp only
   have hn:=kg.mp hf;have all:∀k,k<=rl m (lpI m h c)->ow.getD (lpI m h c+k) (cz 0)≠p4:=λk hk z=>by
    have:=hn k (bu.mpr (show k<rl m (lpN m h c).1+1 by show k<rl m (lpI m h c)+1;lia));rw[show ow.getD ((lpN m h c).1+k) (cz 0)=p4 from z]at this;simp at this
   have i_:c'≠c:=λz=>by subst z;exact all 0 (bL _) d
   have e1:qP m h (n0+rl m (lpI m h c)+1)=(c+1,0):=by rw[qP,a3r e _ (az _),aM (dS _)]
   obtain⟨n,g1,g2,g3,g4,g5⟩:=ih (c+1) _ e1 ⟨c',by lia,by lia,d⟩;refine⟨n,g1,g2,by lia,by lia,λk k1 k2=>?_⟩;rcases bK (n0+rl m (lpI m h c)) k with z|z
   ·exact g5 k (by lia) k2
   ·obtain⟨r,rfl⟩:∃r,k=n0+r:=⟨k-n0,by lia⟩;rw[jr r (by lia)];exact all r (by lia)
structure OwnS (m:Nat) (hs:List Int) (ow:Array (Option Nat)) (S:List Nat):Prop where
 sz:ow.size=m+1
 len:S.length<=hs.length
 has:∀i j:Nat,S[i]?=cz j->j<m+1/\ow.getD j p4=cz i
 only:∀j i:Nat,ow.getD j p4=cz i->S[i]?=cz j
 pth:∀(i j:Nat) (h:Int),S[i]?=cz j->hs[i]?=cz h->∃n,n<10*(m+15)/\jP m h n=j/\∀k,k<n->jP m h k∈S
def b1E{ow:Array (Option Nat)}(hz:ow.size=m+1)(hj:j<m+1):ow.getD j (cz 0)=ow.getD j p4:=by simp[iZ,hz,hj]
def b4h(hm:okM m)(O:OwnS m hs ow S)(hh:hs[S.length]?=cz h)(few:S.length<=m) :
  ∃j,gI m ow (eW m) (eQ h % (m+1)) (eQ h)=cz j/\OwnS m hs (ow.setIfInBounds j (cz S.length)) (S++[j]):=by
 have ex:∃j,j<m+1/\j∉S:=by
  apply dA;intro c;have:=(pF (n:=m+1)).length_le_of_subset (l₂:=S) λj hj=>dA λn=>c ⟨j,bu.mp hj,n⟩
  rw[bB]at this;lia
 have mJ:∀j,j<m+1->(ow.getD j (cz 0)=p4↔j∉S):=λj hj=>by
  rw[b1E O.sz hj]
  constructor
  ·intro e hS;obtain⟨i,hi⟩:=gO hS;rw[(O.has i j hi).2]at e;cases e
  ·intro hS;cases e:ow.getD j p4 with
   |none=>rfl
   |some i=>exact absurd (bo (O.only j i e)) hS
 obtain⟨j0,vz,CP⟩:=ex;obtain⟨c',uL,Fv⟩:=b4e hm h vz;obtain⟨n,g1,g2,_,g4,g5⟩:=b7b (m:=m) (h:=h) (ow:=ow) (eW m) 0 0 rfl ⟨c',bL _,by unfold eW;lia,by rw[Fv];exact (mJ j0 vz).mpr CP⟩;have jl:=b8f m h n;have nS:jP m h n∉S:=(mJ _ jl).mp g2;have nb:n<10*(m+15):=by
  have a:=b4g m h n;have b:=b4b m h n;have d:=b4a m (lpI m h (qP m h n).1);unfold eW at g4;lia
 have pre:∀k,k<n->jP m h k∈S:=λk hk=>dA λz=>g5 k (bL _) hk ((mJ _ (b8f m h k)).mpr z)
 have gd:∀j,(ow.setIfInBounds (jP m h n) (cz S.length)).getD j p4=if j=jP m h n then cz S.length else ow.getD j p4:=λj=>by
  by_cases c:j=jP m h n
  ·subst c;rw[aE rfl];simp[iZ,O.sz,jl]
  ·rw[aM c];simp only[iZ,kT]
   split
   ·rw[qM,Array.getElem_setIfInBounds_ne (by assumption) (fm c)];rfl
   ·rfl
 refine⟨jP m h n,g1,?_⟩;have hl:S.length<hs.length:=(aD.mp hh).1;refine⟨by rw[kT];exact O.sz,by rw[av];exact hl,λi j hi=>?_,λj i hi=>?_,λi j h' hi yk=>?_⟩
 ·rcases bK i S.length with z|z
  ·rw[cG z]at hi;obtain⟨a,b⟩:=O.has i j hi;refine⟨a,?_⟩;rw[gd,aM (λe:j=jP m h n=>nS (e▸bo hi))];exact b
  ·rw[bI z]at hi;obtain⟨q,hq⟩:=aD.mp hi;have:i=S.length:=by simp at q;lia
   subst this;simp at hq;subst hq;exact⟨jl,by rw[gd,aE rfl]⟩
 ·rw[gd]at hi;by_cases c:j=jP m h n
  ·rw[aE c]at hi;cases hi
   subst c;simp
  ·rw[aM c]at hi;have:=O.only j i hi;rw[cG (aD.mp this).1];exact this
 ·rcases bK i S.length with z|z
  ·rw[cG z]at hi;obtain⟨n',a,b,d⟩:=O.pth i j h' hi yk;exact⟨n',a,b,λk hk=>ak _ (d k hk)⟩
  ·rw[bI z]at hi;obtain⟨q,hq⟩:=aD.mp hi;have:i=S.length:=by simp at q;lia
   subst this;simp at hq;subst hq;have:h'=h:=aF (yk.symm.trans hh);subst this;exact⟨n,nb,rfl,λk hk=>ak _ (pre k hk)⟩
def b7c(hm:okM m){hs:Array Int}(few:hs.size<=m):∃(ow:Array (Option Nat)) (S:List Nat),rK m hs=cz ow/\OwnS m hs.toList ow S/\S.length=hs.size:=by
 have key:∀(rest done:List Int) (ow:Array (Option Nat)) (S:List Nat),done++rest=hs.toList->OwnS m hs.toList ow S->S.length=done.length->
   ∃(xZ:Array (Option Nat)) (S':List Nat),rest.foldl (λ(acc:Option (Array (Option Nat)×Nat)) h=>do
    let (owner,k) <-acc
    let j <-gI m owner (eW m) (eQ h % (m+1)) (eQ h)
    pure (owner.setIfInBounds j (cz k),k+1)) (cz (ow,S.length))=cz (xZ,S'.length)/\OwnS m hs.toList xZ S'/\S'.length=hs.size:=by
  intro rest
  induction rest with
  |nil=>
   intro done ow S e O l;refine⟨ow,S,rfl,O,?_⟩;rw[l,<-aJ,<-e,aX]
  |cons h rest ih=>
   intro done ow S e O l;have hh:hs.toList[S.length]?=cz h:=by rw[<-e,l,bI (az _),fO];rfl
   have hl:S.length<=m:=by
    have:=(aD.mp hh).1;have z:hs.toList.length=hs.size:=aJ;lia
   obtain⟨j,g1,g2⟩:=b4h hm O hh hl;obtain⟨xZ,S',k1,k2⟩:=ih (done++[h]) _ (S++[j]) (by rw[aH];exact e) g2 (by simp[l]);refine⟨xZ,S',?_,k2⟩;rw[qL];show rT _ (do let j <-gI m ow (eW m) (eQ h % (m+1)) (eQ h);pure (ow.setIfInBounds j (cz S.length),S.length+1)) rest=_;rw[g1];show rT _ (cz (ow.setIfInBounds j (cz S.length),S.length+1)) rest=_;rw[av]at k1;exact k1
 have O0:OwnS m hs.toList (mf (m+1) p4) []:=by
  refine⟨by simp,bL _,λi j h=>by simp at h,λj i h=>?_,λi j h e=>by simp at e⟩
  exfalso
  simp only[iZ,Array.size_replicate]at h
  split at h
  ·rw[qM,Array.getElem_replicate]at h;cases h
  ·cases h
 obtain⟨ow,S,g1,g2,g3⟩:=key hs.toList [] (mf (m+1) p4) [] rfl O0 rfl;refine⟨ow,S,?_,g2,g3⟩;unfold rK;rw[<-Array.foldl_toList];show rO _ (rT _ (cz (mf (m+1) p4,0)) hs.toList)=_;rw[show rT _ (cz (mf (m+1) (p4:Option Nat),0)) hs.toList=_ from g1];rfl
end VS
namespace VS
open PySem.Spec L2
theorem Z7{α β:Type}{f:α->Option β}{g:α->β}:∀(l:List α),(∀x∈l,f x=cz (g x))->l.filterMap f=l.map g
 |[],_=>rfl
 |x::l,h=>by rw[jH,h x aK,aB,Z7 l λy hy=>h y (ar _ hy)]
def b4i{t:jh}{es:Array (Int×ai)}{Z:List a5M}(T:TabT t es Z)(hm:okM m')(hw:lu wn=m'+1)(few:Z.length<=m') :
  ∃(t':jh) (order:Array Nat) (Z':List a5M),t.relaid (es.map (·.1)) wn=cz (t',order)/\TabT t' (order.filterMap (es[·]?)) Z'/\(order.filterMap (es[·]?)).size=es.size/\(Z'.map (·.2.2)).Perm (Z.map (·.2.2))/\(∀z'∈Z',∃z∈Z,z'.1=z.1/\z'.2.2=z.2.2)/\t'.led=t.led/\t'.mask=m'/\Z'.length=Z.length:=by
 have yA:es.size=Z.length:=by rw[<-aJ,T.es,af]
 obtain⟨ow,S,g1,O,g3⟩:=b7c (m:=m') hm (hs:=es.map (·.1)) (by rw[rW];lia);rw[rW,yA]at g3
 let live:List (Nat×Nat):=(aw (m'+1)).filterMap λj=>(ow.getD j p4).map (j,·)
 have mem:∀p:Nat×Nat,p∈live↔S[p.2]?=cz p.1:=λp=>by
  constructor
  ·intro hp;obtain⟨j,hj,e⟩:=dM.mp hp;obtain⟨i,hi,rfl⟩:=dN.mp e;exact O.only j i hi
  ·intro hp;obtain⟨a,b⟩:=O.has _ _ hp;exact dM.mpr ⟨p.1,bu.mpr a,by rw[b];rfl⟩
 have up:Up (live.map (·.1)):=a5K _;have lt:∀p∈live,p.2<Z.length:=λp hp=>by
  have:=(aD.mp ((mem p).mp hp)).1;lia
 have CK:(live.map (·.2)).Nodup:=by
  rw[List.Nodup,iB];have:=iB.mp up;refine this.imp_of_mem λ{p q} hp hq h e=>?_
  have a:=(mem p).mp hp;have b:=(mem q).mp hq;rw[e,b]at a;have:=aF a;lia
 have perm:(live.map (·.2)).Perm (aw Z.length):=(rR CK pF).mpr λi=>by
  rw[aG,bu]
  constructor
  ·rintro⟨p,hp,rfl⟩;exact lt p hp
  ·intro hi;have:i<S.length:=by lia
   exact⟨(S[i],i),(mem _).mpr (ab this),rfl⟩
 let d:a5M:=((0,.none),0,[])
 let Z':List a5M:=live.map λp=>((Z.getD p.2 d).1,p.1,(Z.getD p.2 d).2.2)
 have sI:∀i,i<Z.length->Z[i]?=cz (Z.getD i d):=λi hi=>by rw[ah,ab hi];rfl
 have BU:((live.map (·.2)).toArray.filterMap (es[·]?)).toList=Z'.map (·.1):=by
  rw[Array.toList_filterMap,fW,List.filterMap_map,bC];refine Z7 _ λp hp=>?_
  show es[p.2]?=cz (Z.getD p.2 d).1;rw[<-bh,T.es,aQ,sI _ (lt p hp)];rfl
 have zl:Z'.length=Z.length:=by
  have:=perm.length_eq;rw[af,bB]at this;rw[af];exact this
 refine⟨{mask:=m',place:=(live.map (·.1)).toArray,dummies:=#[],finger:=t.finger,led:=t.led,moves:=t.movedTo m',plain:=t.plain},(live.map (·.2)).toArray,Z',?_,⟨hm,rfl,by rw[zl];exact few,by rw[fW];exact up,by rw[fW,bC];rfl,BU,λz' nq=>?_⟩,?_,?_,λz' nq=>?_,rfl,rfl,zl⟩
 ·unfold jh.relaid jh.laid;rw[hw];show (rK m' (es.map λe:Int×ai=>e.1)).bind _=_;rw[g1];rfl
 ·obtain⟨p,hp,rfl⟩:=aG.mp nq;have hs:(es.map (·.1)).toList[p.2]?=cz (Z.getD p.2 d).1.1:=by
   rw[FY,T.es,bC,aQ,sI _ (lt p hp)];rfl
  obtain⟨n,a,b,c⟩:=O.pth _ _ _ ((mem p).mp hp) hs;refine⟨n,a,b,λk hk=>?_⟩;obtain⟨i,hi⟩:=gO (c k hk);rw[fW];exact aG.mpr ⟨(_,i),(mem _).mpr hi,rfl⟩
 ·rw[<-aJ,BU,af,zl,yA]
 ·have e1:Z'.map (·.2.2)=(live.map (·.2)).map λi=>(Z.getD i d).2.2:=by rw[bC,bC];rfl
  have e2:Z.map (·.2.2)=(aw Z.length).map λi=>(Z.getD i d).2.2:=by
   refine iE λi=>?_
   rw[aQ,aQ];rcases bK i Z.length with h|h
   ·rw[sI i h,eY h];rfl
   ·rw[gA h,gA (by rw[bB];exact h)];rfl
  rw[e1,e2];exact perm.map _
 ·obtain⟨p,hp,rfl⟩:=aG.mp nq;exact⟨Z.getD p.2 d,bo (sI _ (lt p hp)),rfl,rfl⟩
theorem TabT.put{t:jh}{es:Array (Int×ai)}{Z:List a5M}(T:TabT t es Z){h:Int}{x:ai}{ks:List Int}{e:Nat}(few:Z.length<t.mask)(he:e<10*(t.mask+15))(h1:jP t.mask h e∉t.place.toList)(h2:∀k,k<e->jP t.mask h k∈t.place.toList) :
  ∃Z',TabT (t.put (jP t.mask h e)).1 (de es (t.put (jP t.mask h e)).2 (h,x)) Z'/\(t.put (jP t.mask h e)).1.mask=t.mask/\(t.put (jP t.mask h e)).1.led=t.led/\(Z').Perm (((h,x),jP t.mask h e,ks)::Z):=by
 let p:=lx t.place (jP t.mask h e)
 have dm:(t.put (jP t.mask h e)).1.dummies=#[]:=by
  show (if FI t.dummies _ then _ else t.dummies)=_;rw[T.dum];rw[aM];unfold FI;simp
 have pl:(t.put (jP t.mask h e)).1.place.toList=t.place.toList.take p++jP t.mask h e::t.place.toList.drop p:=AD _ _ _;have pm:(Z.take p++((h,x),jP t.mask h e,ks)::Z.drop p).Perm (((h,x),jP t.mask h e,ks)::Z):=by
  refine FR.trans (List.Perm.cons _ ?_);rw[fF]
 have sub:∀j,j∈t.place.toList->j∈(t.put (jP t.mask h e)).1.place.toList:=λj hj=>by
  rw[pl];rw[<-fF p t.place.toList]at hj;rcases ay.mp hj with z|z
  ·exact ak _ z
  ·exact aj _ (ar _ z)
 refine⟨Z.take p++((h,x),jP t.mask h e,ks)::Z.drop p,⟨T.mask,dm,?_,?_,?_,?_,λz hz=>?_⟩,rfl,rfl,pm⟩
 ·rw[pm.length_eq];exact few
 ·rw[pl];exact c0l T.up (below_at T.up _) h1
 ·rw[pl,T.pl,aT,aB,nu,List.map_drop]
 ·rw[show (de es (t.put (jP t.mask h e)).2 (h,x)).toList=_ from AD _ _ _,T.es,aT,aB,nu,List.map_drop];rfl
 ·rcases aN.mp (pm.mem_iff.mp hz) with rfl|hz
  ·exact⟨e,he,rfl,λk hk=>sub _ (h2 k hk)⟩
  ·obtain⟨n,a,b,c⟩:=T.pth z hz;exact⟨n,a,b,λk hk=>sub _ (c k hk)⟩
section
variable {prog:bA}{w:bQ}{A:bN}{E:ai->ao->Prop}{sh:ao}
def TK.keeps(x:TK prog w h ks b)(ho:h.get? a=cz o)(hd:o.data=.set es ep t)(hs:jq a h h'):TK prog w h' ks b:=by
 obtain⟨o',items,n,oO,hc,jO,hi⟩:=x;have i_:b≠a:=by
  rintro rfl;obtain rfl:o'=o:=aF (oO.symm.trans ho);rw[hd]at jO;exact nomatch jO
 exact⟨o',items,n,(hs.2 b i_).trans oO,hc,jO,hi⟩
def SetT(prog:bA)(w:bQ)(ps:List (aC×List Int))(h:cM)(a:aC)(ms:List (List Int)):Prop:=∃o es ep t Z,h.get? a=cz o/\o.ExactSet/\o.data=.set es ep t/\TabT t es Z/\t.led=(!w.params.followText "set-order")/\a9P prog w h Z/\(Z.map (·.2.2)).Perm ms/\Z.length*5<t.mask*3/\∀z∈Z,∃b,z.1.2=.ref b/\(b,z.2.2)∈ps
def a4I(ho:sh.heap.get? a=cz o)(hd:o.data=.set es ep t):(sh.heap.update a (mY es' t')).get? a=cz {o with data:=.set es' (ep+1) t'}:=by
 have z:=eO (mY es' t') ho (by rw[putSet_of es' t' hd];rfl)
 rwa[putSet_of es' t' hd]at z
def c2d(hS:SetT prog w ps sh.heap a ms)(hx:TK prog w sh.heap kx ax)(sr:(ax,kx)∈ps)(hu:A.units<dF)(hr:ms.length<=300)
  (q:∀b h',jq a sh.heap h'->SetT prog w ps h' a (if kx∈ms then ms else ms++[kx])->Q b {sh with heap:=h'}):aW (a_ prog w) A (setAddHashed a (.ref ax) (hT prog w kx)) Q E sh:=by
 obtain⟨o,es,ep,t,Z,ho,hX,hd,T,hl,R,hp,hf,hm⟩:=hS;have zl:Z.length=ms.length:=by have:=hp.length_eq;rwa[af]at this
 have few:Z.length<t.mask:=by rcases T.mask with m|m|m|m<;>rw[m]at hf ⊢<;>lia
 have yQ:t.place.toList.length<=t.mask:=by rw[T.pl,af];lia
 obtain⟨e,he,h1,h2⟩:=a8x T.mask (hT prog w kx) yQ;unfold setAddHashed setAddHashedIn;refine cK (ae (jc ho hd T.fits ?_))
 dsimp only
 rw[show byScan (.ref ax) es=xn from by unfold byScan ai.scannable;rfl];simp only[be,cH];unfold setSearch;refine ae (b4f ho hd T R hx hu he h1 h2 (λc=>?_) (λc=>?_) 100000 0 p4 rfl (bL _) (by rcases T.mask with m|m|m|m<;>rw[m]at he<;>lia) (λk hk=>by lia))
 ·have z:=q xn sh.heap (jq.refl a _) (by rw[aE (hp.mem_iff.mp c)];exact⟨o,es,ep,t,Z,ho,hX,hd,T,hl,R,hp,hf,hm⟩);exact aA z
 ·rw[aM (λm=>c (hp.mem_iff.mpr m))]at q
  dsimp only
  refine ae (jc ho hd T.fits ?_)
  dsimp only
  obtain⟨Z1,T1,m1,l1,p1⟩:=T.put (x:=.ref ax) (ks:=kx) few he h1 h2;generalize t.put (jP t.mask (hT prog w kx) e)=P at T1 m1 l1 ⊢;obtain⟨t1,pp⟩:=P
  dsimp only at T1 m1 l1 ⊢
  have R1:a9P prog w sh.heap Z1:=λz hz=>by
   rcases aN.mp (p1.mem_iff.mp hz) with rfl|hz
   ·exact⟨rfl,ax,rfl,hx⟩
   ·exact R z hz
  have tu:∀z∈Z1,∃b,z.1.2=.ref b/\(b,z.2.2)∈ps:=λz hz=>by
   rcases aN.mp (p1.mem_iff.mp hz) with rfl|hz
   ·exact⟨ax,rfl,sr⟩
   ·exact hm z hz
  have k1:(Z1.map (·.2.2)).Perm (ms++[kx]):=by
   refine (p1.map (·.2.2)).trans ?_;rw[aB];exact (List.Perm.cons _ hp).trans (ke kx ms).symm
  have z1:Z1.length=ms.length+1:=by rw[p1.length_eq,aS,zl]
  have BV:(de es pp (hT prog w kx,bt ax)).size=ms.length+1:=by rw[<-aJ,T1.es,af,z1]
  have tail:∀t2:jh,TabT t2 (de es pp (hT prog w kx,.ref ax)) Z1->t2.mask=t.mask->t2.led=t.led->
    aW (a_ prog w) A (storeSet a (de es pp (hT prog w kx,.ref ax)) t2 >>= λ_=>if (!false&&t2.tooFull)=rp then (setRelay a (jg (es.size+1)) >>= λ_=>pure rp) else pure rp) Q E sh:=by
   intro t2 T2 m2 l2;refine ae (wpAny_storeSet_of ho hd ?_ (by rw[BV];exact cC (show ms.length+1<=1000 by lia) (by decide)));have o2:=a4I (es':=de es pp (hT prog w kx,.ref ax)) (t':=t2) ho hd;have sb:=dX sh.heap a (mY (de es pp (hT prog w kx,.ref ax)) t2);have R2:a9P prog w (sh.heap.update a (mY (de es pp (hT prog w kx,.ref ax)) t2)) Z1:=λz hz=>let⟨a1,b,a2,a3⟩:=R1 z hz;⟨a1,b,a2,a3.keeps ho hd sb⟩
   have fill:t2.fill=Z1.length:=by unfold jh.fill;rw[T2.dum,<-aJ,T2.pl,af];rfl
   split
   ·rename_i tf
    have tf:t2.fill*5≥t2.mask*3:=by simpa[jh.tooFull]using tf
    rw[fill,z1,m2]at tf;have yA:es.size=ms.length:=by rw[<-aJ,T.es,af,zl]
    obtain⟨m',vt,hw,b1,b2,b3⟩:∃m',okM m'/\lu (jg (ms.length+1))=m'+1/\Z1.length<=m'/\Z1.length*5<m'*3/\¬ m'+1>br:=by
     have f4:∀a b:Nat,ms.length=a->lu (jg (a+1))=b->lu (jg (ms.length+1))=b:=λa b e h=>by rw[e];exact h
     rw[z1];rw[zl]at hf;rcases T.mask with m|m|m|m<;>rw[m]at tf hf
     ·exact⟨31,.inr (.inl rfl),f4 4 _ (by lia) (by decide +kernel),by lia,by lia,by decide +kernel⟩
     ·exact⟨127,.inr (.inr (.inl rfl)),f4 18 _ (by lia) (by decide +kernel),by lia,by lia,by decide +kernel⟩
     ·exact⟨511,.inr (.inr (.inr rfl)),f4 76 _ (by lia) (by decide +kernel),by lia,by lia,by decide +kernel⟩
     ·lia
    rw[yA];obtain⟨t3,order,Z3,r1,T3,r3,r4,r5,r6,r7,r8⟩:=b4i T2 (wn:=jg (ms.length+1)) vt hw b1;unfold setRelay;refine ae (ae (jc o2 rfl T2.fits ?_))
    dsimp only
    rw[aM (by rw[hw];exact b3)];refine ae (show aW (a_ prog w) A (do
     let cz (t,order):=t2.relaid ((de es pp (hT prog w kx,bt ax)).map (·.1)) (jg (ms.length+1))|sV "internal:set-table-without-room"
     let es':=order.filterMap ((de es pp (hT prog w kx,bt ax))[·]?)
     if es'.size !=(de es pp (hT prog w kx,bt ax)).size then sV "internal:set-table-lost-an-element"
     pure (es',t)) _ _ _ from ?_)
    rw[r1]
    dsimp only
    rw[r3,aM (by simp)];refine aA ?_
    dsimp only
    refine wpAny_storeSet_of o2 rfl ?_ (by rw[r3,BV];exact cC (show ms.length+1<=1000 by lia) (by decide));have AQ:=sb.trans (dX _ a (mY (order.filterMap ((de es pp (hT prog w kx,bt ax))[·]?)) t3));refine aA (q rp _ AQ ⟨_,_,_,t3,Z3,a4I (sh:={sh with heap:=sh.heap.update a (mY (de es pp (hT prog w kx,.ref ax)) t2)}) o2 rfl,hX,rfl,T3,by rw[r6,l2,hl],λz hz=>?_,r4.trans k1,by rw[r8,r7];exact b2,λz hz=>?_⟩)
    ·obtain⟨z',nq,e1,e2⟩:=r5 z hz;obtain⟨a1,b,a2,a3⟩:=R1 z' nq;rw[e1,e2];exact⟨a1,b,a2,a3.keeps ho hd AQ⟩
    ·obtain⟨z',nq,e1,e2⟩:=r5 z hz;rw[e1,e2];exact tu z' nq
   ·rename_i tf
    have tf:¬ t2.fill*5≥t2.mask*3:=by simpa[jh.tooFull]using tf
    rw[fill]at tf;exact aA (q rp _ sb ⟨_,_,_,t2,Z1,o2,hX,rfl,T2,by rw[l2,hl],R2,k1,by lia,tu⟩)
  cases gK:t1.plain with
  |true=>
   rw[aE rfl];refine ae (b7a hx ?_);rw[aE rfl];exact tail t1 T1 m1 l1
  |false=>
   simp only[be,cH];refine ae (aA ?_);rw[aE rfl];exact tail t1 T1 m1 l1
end
section
variable {prog:bA}{w:bQ}{A:bN}{E:ai->ao->Prop}{sh:ao}{R:xM->ao->Prop}{I:aC}{fp wr:List aC}{G:Array xT->Array xT->Prop}{n:Nat}{P:Nat->ai->Prop}{St:Nat->ao->Prop}
def a0W:List (List Int)->List (List Int)->List (List Int)
 |ms,[]=>ms
 |ms,k::ks=>a0W (if k∈ms then ms else ms++[k]) ks
def b1F(Wk:WalksS prog w A.in1 I fp wr G n P St)(z:aC)(hz:z∉fp)(kss:List (List Int))(hn:kss.length=n)(qX:∀i v,P i v->∃b k,v=.ref b/\kss[i]?=cz k/\(b,k)∈ps)(sr:∀p∈ps,p.1≠z/\p.1∉wr)(hu:A.units+1<dF) :
  ∀(k i:Nat) (s:ao) (ms:List (List Int)),n-i=k->i<=n->ms.length+(n-i)<=300->St i s->SetT prog w ps s.heap z ms->(∀p∈ps,TK prog w s.heap p.2 p.1)->(∀s',Moved (z::wr) G s s'->SetT prog w ps s'.heap z (a0W ms (kss.drop i))->R (.ok (.ret .none)) s')->
   kJ (a_ prog w) A (.builtin "set.update.loop" ⟨[.ref z,.ref I],[]⟩) R s:=by
 have hw:z∉wr:=λh=>hz (Wk.sub _ h)
 have up:∀b∈wr,b∈z::wr:=λb h=>ar _ h
 have mv:∀{s s':ao} {ms:List (List Int)},Moved wr G s s'->(∀p∈ps,TK prog w s.heap p.2 p.1)->SetT prog w ps s.heap z ms->SetT prog w ps s'.heap z ms/\∀p∈ps,TK prog w s'.heap p.2 p.1:=λ{s s' ms} m hK hS=>by
  have keep:∀p∈ps,TK prog w s'.heap p.2 p.1:=λp hp=>let⟨o,its,q,a1,a2⟩:=hK p hp;⟨o,its,q,m.heap _ _ (sr p hp).2 a1,a2⟩
  obtain⟨o,es,ep,t,Z,h1,h2,h3,h4,h5,h6,h7,h8,h9⟩:=hS;exact⟨⟨o,es,ep,t,Z,m.heap z o hw h1,h2,h3,h4,h5,λy hy=>let⟨a1,b,a2,a3⟩:=h6 y hy;let⟨b',c1,c2⟩:=h9 y hy;⟨a1,b',c1,keep _ c2⟩,h7,h8,h9⟩,keep⟩
 intro k
 induction k with
 |zero=>
  intro i s ms hk hi hm st hS hK hR;obtain rfl:i=n:=by lia
  rw[uW (by lia)]at hR;refine iM (by exact mX) ?_;rw[h_ (by exact g_) _];show aW _ A.in1 (qf (bt I) >>= _) _ _ s;refine ae (Wk.done s _ _ st λs' m=>(show aW _ A.in1 (ret bD) _ _ s' from aA (hR s' (m.mono up) (mv m hK hS).1)))
 |succ k ih=>
  intro i s ms hk hi hm st hS hK hR;have lt:i<n:=by lia
  refine iM (by exact mX) ?_;rw[h_ (by exact g_) _];show aW _ A.in1 (qf (bt I) >>= _) _ _ s;refine ae (Wk.item i s _ _ lt st λv s1 hP uZ m=>?_);obtain⟨b,kx,rfl,ek,hb⟩:=qX i v hP;obtain⟨EW,Am⟩:=mv m hK hS;show aW _ A.in1 (lW [bt b] (setAdd z (.ref b)) >>= λ_=>_) _ _ s1;refine ae (cK ?_);unfold setAdd;refine cK (ae ((tupleKind (fH prog w)).pyHash (k:=kx) (show A.in1.units<dF from hu) (Am _ hb) ?_));refine c2d (sh:={s1 with toks:=s1.toks+(tupleKind (fH prog w)).draws kx}) (ms:=ms) EW (Am _ hb) hb hu (by lia) λbb h' sb EV=>?_
  have hd:kss.drop i=kx::kss.drop (i+1):=by
   obtain⟨q,e⟩:=aD.mp ek;rw[dw q,e]
  rw[hd]at hR;have hl:(if kx∈ms then ms else ms++[kx]).length<=ms.length+1:=by
   split
   ·lia
   ·simp
  refine aA ⟨yR (by exact g_) _,ih (i+1) _ _ (by lia) lt (by lia) (Wk.frame _ s1 _ _ uZ (FO _ _) λc hc o e=>?_) EV (λp hp=>?_) λs2 m2 EU=>?_⟩
  ·rw[sb.2 c (λx:c=z=>hz (x▸hc))];exact e
  ·obtain⟨o,its,q,a1,a2⟩:=Am p hp;exact⟨o,its,q,(sb.2 _ (sr p hp).1).trans a1,a2⟩
  ·refine hR s2 (Moved.trans Wk.gtrans ((m.mono up).then_heap (FO _ _) λc o hc e=>?_) m2) EU;rw[sb.2 c (λx:c=z=>hc (x▸aK))];exact e
def b1G(ps:List (aC×List Int)){h:cM}(e:h.get? a=cz (a3q w)):SetT prog w ps h a []:=
 ⟨a3q w,#[],0,.fresh 0 0 (!w.params.followText "set-order"),[],e,⟨rfl,rfl,rfl⟩,rfl,⟨.inl rfl,rfl,bL _,iH,rfl,rfl,λ_ h=>(nomatch h)⟩,rfl,λ_ h=>(nomatch h),iG _,show 0*5<7*3 by decide,λ_ h=>(nomatch h)⟩
def b1H{kss:List (List Int)}(hh:A.handled=p4)(hl:sh.heap.IsList l items)(hn:kss.length=items.size)(hi:∀(i:Nat) (v:ai),items[i]?=cz v->∃b k,v=.ref b/\kss[i]?=cz k/\(b,k)∈ps)(hK:∀p∈ps,TK prog w sh.heap p.2 p.1)(hb:items.size<=300)(hu:A.units+10<dF)
  (h:∀(h':cM) (tk:Nat),SetT prog w ps h' sh.heap.objs.size (a0W [] kss)->(∀b o,sh.heap.get? b=cz o->h'.get? b=cz o)->Q (.ref sh.heap.objs.size) {sh with heap:=h',toks:=tk}) :
  aW (a_ prog w) A (call (.type "set") [.ref l]) Q E sh:=by
 obtain⟨cl,tl,DR⟩:=(by exact ik.mro);have g1:=(by exact ik.made);have g2:=(by exact ik.sub);refine qd (codeAny_of_tree (show aW _ _ (callAny (.type "set") _) _ _ _ from ?_));refine aA ⟨Code.quiet_builtin _ (by decide +kernel),iM (by exact F.entry_type_call) ?_⟩;rw[bN.under_plain (by exact weight_type_call_type "set" [.ref l] []) rfl];have g3:=(by exact ik.notType);have g4:=(by exact ik.canCreate);have g5:=(by exact F.typeCall_set_1 (.ref l))
 repeat (any_goals first|assumption|wp_step)
 refine fX (b6X (.ref l) (E:=E) (Q:=λv s1=>v=.ref sh.heap.objs.size/\s1={sh with heap:=sh.heap.push (a3q w)}) ⟨rfl,rfl⟩) λr s1 hr=>?_
 cases r with
 |error e=>exact hr
 |ok fl=>
  cases fl with
  |ret v=>
   obtain⟨rfl,rfl⟩:=hr;have hS:(sh.heap.push (a3q w)).get? sh.heap.objs.size=cz (a3q w):=bz _ rfl;have hT:ao.TypeIs {sh with heap:=sh.heap.push (a3q w)} (.ref sh.heap.objs.size) "set":=⟨_,hS,rfl⟩;have g6:=(by exact ik.init.lookup);have g7:=(by exact ik.init.bind (.ref sh.heap.objs.size))
   repeat (any_goals first|assumption|wp_step)
   refine fX (codeAny_call_builtin (R:=wants (λr s2=>r=.none/\∃h' tk,s2={sh with heap:=h',toks:=tk}/\SetT prog w ps h' sh.heap.objs.size (a0W [] kss)/\(∀b o,sh.heap.get? b=cz o->h'.get? b=cz o)) E) (by exact ik.init.plain) (by exact F.entry_set_init) (check_set_init_1 hT ?_)) λr2 s2 zy=>?_
   ·obtain⟨ol,vp,pS,nl,vD⟩:=hl;obtain⟨oc,od,Gk,os⟩:=ol;simp only at pS vD;subst pS;subst vD;have zE:(sh.heap.push (a3q w)).get? l=cz {cls:=.type "list",dict:=od,data:=.seq items nl,slots:=os}:=aO _ vp;have k1:=(by exact F.sub_list_set);have k2:=(by exact F.sub_list_frozenset);have k3:(lr "list" == lr "dict")=xn:=by decide +kernel
    have zN:(sh.heap.push (a3q w)).IsList l items:=⟨_,zE,rfl,nl,rfl⟩;unfold Builtin.«set.__init__» noKeywords;unfold Builtin.Frozenset.updateFrom;generalize EZ:CI=PI
    wp_walk
    subst EZ;refine wpAny_pyIter_list zN (ae (wpAny_runValue ?_));have lt:l<sh.heap.objs.size:=aY vp;have yk:A.in1.in1.in1.handled=p4:=by simp[hh]
    have ne:l≠(sh.heap.push (a3q w)).objs.size:=by rw[ly];exact bO (kF lt)
    have nf:sh.heap.objs.size∉[(sh.heap.push (a3q w)).objs.size,l]:=by
     rw[ly];simp only[aN,pE,or_false,not_or];exact⟨bO (pD _),iA lt⟩
    have CW:∀p∈ps,p.1<sh.heap.objs.size:=λp hp=>let⟨_,_,_,a1,_⟩:=hK p hp;aY a1
    refine b1F (ps:=ps) ((Walks.list yk _ l ne items).toS) sh.heap.objs.size nf kss hn hi (λp hp=>?_) (by simp only[bN.in1_units];lia) (items.size-0) 0 _ [] rfl (bL _) (by simpa using hb) ⟨⟨_,bz _ rfl,rfl,rfl⟩,zN.push _⟩ (b1G ps (aO _ hS)) (λp hp=>?_) λs' m xx=>?_
    ·have:=CW p hp;simp only[aN,pE,or_false,ly];exact⟨bO this,bO (kF this)⟩
    ·obtain⟨o,its,q,a1,a2⟩:=hK p hp;exact⟨o,its,q,aO _ (aO _ a1),a2⟩
    ·obtain⟨h',g',d',Cu,yT⟩:=s';have e1:g'=sh.gens:=m.gens;have e2:d'=sh.drawn:=m.drawn;have e3:yT=sh.os:=m.os;subst e1 e2 e3;show aW _ _ _ _ _ _;refine aA (show aW _ _ (ret bD) _ _ _ from aA ⟨rfl,h',Cu,rfl,xx,λb o e=>?_⟩);have lb:=aY e;refine m.heap b o ?_ (aO _ (aO _ e));simp only[aN,pE,or_false,not_or,ly];exact⟨bO lb,bO (kF lb)⟩
   ·cases r2 with
    |error e=>exact zy
    |ok Fk=>
     cases Fk with
     |ret r=>
      obtain⟨rfl,h',tk,rfl,xx,sA⟩:=zy
      repeat (any_goals first|assumption|wp_step)
      exact h _ _ xx sA
     |_=>exact zy.elim
  |_=>exact hr.elim
end
end VS
namespace VS
open PySem.Spec L2
open PyProof.Rows (IntsAre)
section
variable {prog:bA}{w:bQ}
def b1I(prog:bA)(w:bQ)(ps:List (aC×List Int))(h:cM)(a:aC)(ms:List (List Int)):Prop:=∃o es ep t Z,h.get? a=cz o/\o.ExactSet/\o.data=.set es ep t/\TabT t es Z/\t.led=(!w.params.followText "set-order")/\(∀z∈Z,z.1.1=hT prog w z.2.2)/\(Z.map (·.2.2)).Perm ms/\Z.length*5<t.mask*3/\∀z∈Z,∃b,z.1.2=.ref b/\(b,z.2.2)∈ps
def SetT.toP(x:SetT prog w ps h a ms):b1I prog w ps h a ms:=let⟨o,es,ep,t,Z,h1,h2,h3,h4,h5,h6,h7⟩:=x;⟨o,es,ep,t,Z,h1,h2,h3,h4,h5,λz hz=>(h6 z hz).1,h7⟩
def b4j(h:IntsAre vs ks):ItemsAre (fH prog w) ks vs:=by
 induction h with
 |nil=>exact .nil
 |cons n t _ ih=>exact .cons (intKind_is _ _ _ _) ih
def c2e(x:c1X rp h (.ref b) ks):TK prog w h ks b:=by
 obtain⟨a,o,xs,m,e,h1,h2,h3,h4⟩:=(show ∃a' o xs m,bt b=.ref a'/\h.get? a'=cz o/\o.cls=.type "tuple"/\o.data=.seq xs m/\IntsAre xs.toList ks from x);cases e
 exact⟨o,xs,m,h1,h2,h3,b4j h4⟩
theorem a7c:∀(ks ms:List (List Int)),(a0W ms ks).length<=ms.length+ks.length
 |[],ms=>by simp[a0W]
 |x::ks,ms=>by
  rw[a0W,aS];refine cC (a7c ks _) ?_
  split
  ·lia
  ·rw[av,bZ];lia
end
def adV:V->aC
 |.ref a=>a
 |_=>0
def a7d(ys:List V)(nss:List (List Int)):List (aC×List Int):=(ys.zip nss).map λp=>(adV p.1,p.2)
section
variable {X:Cx}{M:List Md}{a:Expr}{fa:EvE}{ca:Cat}{pos kZ p p2:fV}{pins:List (aC×gc)}{Y:L2.St}{H:Hp}{s:ao}
def b7d:∀{ys:List V} {nss:List (List Int)},DenAll K H ys (nss.map (kD rp))->ys.length=nss.length/\(∀(i:Nat) (y:V),ys[i]?=cz y->∃k,nss[i]?=cz k/\y=.ref (adV y)/\(adV y,k)∈a7d ys nss)/\∀p∈a7d ys nss,Den K H (.ref p.1) (kD rp p.2):=by
 intro ys nss h;have hl:ys.length=nss.length:=by rw[h.length,af]
 have one:∀(i:Nat) (k:List Int),nss[i]?=cz k->∃y,ys[i]?=cz y/\y=.ref (adV y)/\Den K H y (kD rp k):=λi k hk=>by
  obtain⟨v,hv,dv⟩:=h.get (show (nss.map (kD rp))[i]?=cz (kD rp k) by rw[aQ,hk];rfl);obtain⟨b,xs,rfl,_,_⟩:=(show Den K H v (.tuple (k.map .int)) from dv).tup_inv;exact⟨_,hv,rfl,dv⟩
 refine⟨hl,λi y hy=>?_,λp hp=>?_⟩
 ·have hi:i<nss.length:=by rw[<-hl];exact (aD.mp hy).1
  obtain⟨y',h1,h2,h3⟩:=one i nss[i] (ab hi);have:y'=y:=aF (h1.symm.trans hy);subst this;refine⟨_,ab hi,h2,aG.mpr ⟨(y',nss[i]),bo (i:=i) ?_,rfl⟩⟩;rw[gY];exact⟨hy,ab hi⟩
 ·obtain⟨⟨y,k⟩,hz,rfl⟩:=aG.mp hp;obtain⟨i,hi⟩:=gO hz;obtain⟨g1,g2⟩:=gY.mp hi;obtain⟨y',h1,h2,h3⟩:=one i k g2;have:y'=y:=aF (h1.symm.trans g1);subst this;show Den K H (.ref (adV y')) (kD rp k);rw[<-h2];exact h3
def a8y(hc:X.calm=rp)(hu:X.A.units+464<dF):CallR X (.type "set") (λxs H Q=>∃(p:aC) (ys:List V) (nss:List (List Int)),xs=[.ref p]/\SqX X.K H p ys/\DenAll X.K H ys (nss.map (kD rp))/\nss.length<=300/\∀z,H z=p4->Q (.ref z) (upd H z (.ext λh=>b1I X.prog X.w (a7d ys nss) h z (a0W [] nss)))):=by
 intro pins s Y H xs us Q I rv h;obtain⟨p,ys,nss,rfl,hp,hd,hn,q⟩:=h;obtain⟨u,rfl,rx⟩:=vals1 rv;cases (show u=bt p from rx)
 obtain⟨_,its,n,tZ,ho⟩:=hp.ok I;have hl:s.heap.IsList p its.toArray:=⟨_,ho,rfl,n,rfl⟩;obtain⟨hlen,ou,kH⟩:=b7d hd;have hK:∀q∈a7d ys nss,TK X.prog X.w s.heap q.2 q.1:=λq hq=>c2e (b6H (kt:=rp) I (kH q hq) (show RelV (.ref q.1) (.ref q.1) from rfl) λz=>by cases z)
 have hz:its.length=nss.length:=by rw[<-tZ.length,hlen]
 refine b1H (ps:=a7d ys nss) (kss:=nss) (I.ok.hd hc) hl (by rw[bj,hz]) (λi v hv=>?_) hK (by rw[bj,hz];exact hn) (by lia) λh' tk hS hk=>?_
 ·rw[vQ]at hv;have hi:i<ys.length:=by rw[tZ.length];exact (aD.mp hv).1
  obtain⟨k,k1,k2,k3⟩:=ou i ys[i] (ab hi);obtain⟨u,rY,ru⟩:=tZ.get (ab hi);have:u=v:=aF (rY.symm.trans hv);subst this;rw[k2]at ru;exact⟨_,k,show u=bt _ from ru,k1,k3⟩
 ·have nU:H s.heap.objs.size=p4:=I.hok.fresh (az _);exact⟨.ref s.heap.objs.size,_,I.laid (a:=s.heap.objs.size) (o:=.ext λh=>b1I X.prog X.w (a7d ys nss) h s.heap.objs.size (a0W [] nss)) (t':=tk) hk (az _) ⟨hS.toP,let⟨o,_,_,_,_,e,_⟩:=hS;⟨o,e⟩,λ_ _ x k=>let⟨o,es,ep,t,Z,e,r⟩:=x;⟨o,es,ep,t,Z,k _ e,r⟩⟩,rfl,q _ nU⟩
end
end VS
namespace VS
open PySem.Spec L2
section
variable {X:Cx}{M:List Md}{a:Expr}{fa:EvE}{ca:Cat}{pos kZ p p2:fV}
def a8z:CallR X (.builtin "len") (λxs H Q=>∃p ms ps,xs=[V.ref p]/\H p=cz (.ext λh=>b1I X.prog X.w ps h p ms)/\ms.length<301/\Q (.int (ms.length:Nat)) H):=by
 intro pins s Y H xs us Q I rv h;obtain⟨p,ms,ps,rfl,hH,GO,q⟩:=h;obtain⟨u,rfl,rx⟩:=vals1 rv;cases (show u=bt p from rx)
 obtain⟨⟨o,es,ep,t,Z,ho,hex,hd,T,_,_,hp,_⟩,_,_⟩:=(show (b1I X.prog X.w ps s.heap p ms)/\_/\_ from I.hok p _ hH);have b:es.size=ms.length:=by
  have:=hp.length_eq;rw[af]at this;rw[<-aJ,T.es,af,this]
 refine call_len_set ho hex hd T.fits (by lia) ⟨.int (ms.length:Nat),H,I.tok _,⟨s.toks+1,by rw[b]⟩,q⟩
def W4(a:EvE):EvE:=λU=>(a U).bind λd=>(asL d).bind λds=>(a4H rp ds).bind λnss=>if nss.length<=300 then cz (.int ((a0W [] nss).length:Nat)) else p4
def a8A(hc:X.calm=rp)(hu:X.A.units+464<dF)(hm:X.mg "set"=p4)(DV:X.mg "len"=p4)(ha:PX X M a fa ca)(hg:Gl X "set":=by rfl)(Ep:Gl X "len":=by rfl)(he:au [a] X.env=(xn,cI a X.env)::au [] X.env:=by rfl)(gK:(cD kZ (au [] X.env)).any (·.1)=xn:=by rfl)
  (pR:au [.Call (.Name "set" p2) [a] [] kZ] X.env=(xn,cI (.Call (.Name "set" p2) [a] [] kZ) X.env)::au [] X.env:=by rfl) (zA:(cD pos (au [] X.env)).any (·.1)=xn:=by rfl) :
  PX X M (.Call (.Name "len" p) [.Call (.Name "set" p2) [a] [] kZ] [] pos) (W4 fa) (.new .i):=by
 obtain⟨ta,pa,qa⟩:=ha.out;refine .mk ⟨_,a0A a8z Ep DV rM (k6 (J9 (a8y hc hu) hg hm PyProof.Rows.Boot.«set» (k6 pa n8 he) (by decide) (by decide) he gK) n8 pR) (by decide) (by decide) pR zA,λU Y H P F d Q S hf q=>?_⟩;obtain⟨x,h1,g1⟩:=bnd hf;obtain⟨ds,h2,g2⟩:=bnd g1;obtain⟨nss,h3,g3⟩:=bnd g2;cases K6 h2
 obtain⟨e1,_⟩:=a0o h3;by_cases c:nss.length<=300
 ·rw[aE c]at g3;cases g3
  refine qa U Y H P F _ _ S h1 λv H1 w1 r1=>?_
  obtain⟨pp,ys,rfl,k1,k2⟩:=r1.den.list_inv;rw[e1]at k2;refine⟨pp,ys,nss,rfl,k1,k2,c,λz hz=>?_⟩;have e2:=j8 hz (.ext λh=>b1I X.prog X.w (a7d ys nss) h z (a0W [] nss));exact⟨z,_,a7d ys nss,rfl,g8,by have:=a7c nss [];simp at this;lia,q _ _ (w1.trans e2) (K5 (by simp only[imm]) den_int (S.lst' (w1.trans e2)))⟩
 ·rw[aM c]at g3;cases g3
end
end VS
namespace L2
def Has.u(h:Has P w K mg base x i ps sp)(l:i<=j:=by decide):Has P w K mg base x j ps sp:=h.up l
end L2
namespace VS
open PySem.Spec PyProof.Rows L2
structure DP (K:ag) (mg:bM->Option ai) (x:bM) (st:iO):Prop where
 ex:∃f fd,Fun K x x st f fd/\gS K bU x=cz (cz (.ref f))/\mg x=cz (.ref f)
section
variable {P:bA}{w:bQ}{K:ag}{mg:bM->Option ai}{base h:cM}{x:bM}{st:iO}{N ps:List bM}{k n:Nat}{us:List Ty}{u wt:Ty}{g:EvS}{sp:Sp}
def c2f{f:aC}{oc:ai}{od an:Option aC}{qm:Array (Option ai)}{kV doc pm gH ct:ai}(X:K.In h)(G:h.Ns bU mg)(a:gS K bU x=cz (cz (.ref f)))(l:K.lookup f=cz ⟨oc,od,.func (gf x x (Q2 st) (u7 st) (f8 st) .none kV doc pm an gH ct),qm⟩)
  (c:mL K gH x=rp) (k:fZ K (.ref f)=rp):DP K mg x st:=⟨_,_,b8X l c k,a,kM X G a⟩
def c3D(X:K.In h)(G:h.Ns bU mg)(a:gS K bU x=cz (cz (.int i t))):∃t,mg x=cz (.int i t):=⟨t,kM X G a⟩
abbrev BBy(x:bM)(st:iO)(ps:List bM):Prop:=∀(kV doc pm:ai) (an:Option aC) (gH ct:ai) (us:List ai),us.length=ps.length->rH (gf x x (Q2 st) (u7 st) (f8 st) .none kV doc pm an gH ct) ⟨us,[]⟩=pure (ps.zip us)
def m7(d:DP K mg x st)(h:∀f fd,Fun K x x st f fd->FnOk P w K mg base CX0 k f fd ps sp)(b:BBy x st ps:=by intro _ _ _ _ _ _ us hl;first|(obtain⟨_,rfl⟩:=b9Z hl;rfl)|(obtain⟨_,_,rfl⟩:=c0a hl;rfl)|(obtain⟨_,_,_,rfl⟩:=c1Y hl;rfl)|(obtain⟨_,_,_,_,rfl⟩:=c3A hl;rfl)|(obtain⟨_,_,_,_,_,rfl⟩:=c3B hl;rfl)|(obtain⟨_,_,_,_,_,_,rfl⟩:=c3C hl;rfl)):Has P w K mg base x k ps sp:=by
 obtain⟨f,fd,F,a,m⟩:=d.ex;exact⟨f,fd,h f fd F,F.binds b,F.kp,m⟩
def b7e(d:DP K mg x st)(h:∀f fd,Fun K x x st f fd->gS K bU x=cz (cz (.ref f))->FnOk P w K mg base CX0 k f fd ps sp)(b:BBy x st ps:=by intro _ _ _ _ _ _ us hl;first|(obtain⟨_,rfl⟩:=b9Z hl;rfl)|(obtain⟨_,_,rfl⟩:=c0a hl;rfl)|(obtain⟨_,_,_,rfl⟩:=c1Y hl;rfl)):Has P w K mg base x k ps sp:=by
 obtain⟨f,fd,F,a,m⟩:=d.ex;exact⟨f,fd,h f fd F a,F.binds b,F.kp,m⟩
def fnF(F:Fun K x x st f fd)(N:List bM)(hb:∀(S:FnScope N ps (f8 st)) (gH:ai) (A:bN) (outer:List pH) (s:ao) (H:Hp) (E:XK),Room k (A.deeper (jD x (f8 st) s.heap.objs.size f gH))->PSsX (a0z CX0 P w K mg base N x (f8 st) f gH A outer s H E).nox u [] (us.map .own++aI n .dead) (u7 st) g [])
  (S:FnScope N ps (f8 st):=by exact⟨rfl,rfl,rfl,by decide +kernel,rfl,by decide +kernel,by decide +kernel⟩) (oX:us.length=ps.length:=by rfl) (hn:N.length=ps.length+n:=by rfl):FnOk P w K mg base CX0 (k+1) f fd ps (spD K ps.length (fnD us n g) u):=b6g F S oX hn (hb S)
def c3E(F:Fun K x x st f fd)(N:List bM)(M':List Md)(hb:∀(S:FnScope N ps (f8 st)) (gH:ai) (A:bN) (outer:List pH) (s:ao) (H:Hp) (E:XK),Room k (A.deeper (jD x (f8 st) s.heap.objs.size f gH))->PSsX (a0z CX0 P w K mg base N x (f8 st) f gH A outer s H E).nox .i [] (us.map .own++aI n .dead) (u7 st) g M')
  (S:FnScope N ps (f8 st):=by exact⟨rfl,rfl,rfl,by decide +kernel,rfl,by decide +kernel,by decide +kernel⟩) (oX:us.length=ps.length:=by rfl) (hn:N.length=ps.length+n:=by rfl):FnOk P w K mg base CX0 (k+1) f fd ps (spD K ps.length (fnN us n g) .i):=b3h F S oX hn (hb S)
def c3F{Φ:(List D->Option D)->Hp->V->Prop}{g:(List D->Option D)->EvS}(F:Fun K x x st f fd)(N:List bM)(hb:∀(S:FnScope N ps (f8 st)) (gm:List D->Option D) (gH:ai) (A:bN) (outer:List pH) (s:ao) (H:Hp) (E:XK),Room k (A.deeper (jD x (f8 st) s.heap.objs.size f gH))->PSsX (a0z CX0 P w K mg base N x (f8 st) f gH A outer s H E).nox u [] (us.map .own++(.fn (Φ gm)::aI n .dead)) (u7 st) (g gm) [])
  (S:FnScope N ps (f8 st):=by exact⟨rfl,rfl,rfl,by decide +kernel,rfl,by decide +kernel,by decide +kernel⟩) (oX:us.length+1=ps.length:=by rfl) (hn:N.length=ps.length+n:=by rfl) (hj:j=us.length:=by rfl):FnOk P w K mg base CX0 (k+1) f fd ps (spL K j Φ (fnL us n g) u):=hj▸b3S (M':=λ_=>[]) F S oX hn (hb S)
def c3G(F:Fun K x x st f fd)(N:List bM)(lt:(A0 K x).isSome=rp)(X:K.In base)(G:base.Ns bU mg)(a:gS K bU x=cz (cz (.ref f)))(hb:∀(S:FnScope N ps (f8 st)) (c:aC) (p:aC) (hc:fd.code=.ref c) (hp:A0 K x=cz p) (hd:gM base c p) (A:bN) (outer:List pH) (s:ao) (H:Hp) (E:XK),Room k (A.deeper (jD x (f8 st) s.heap.objs.size f fd.code))->PSsX (a0z CX0 P w K mg base N x (f8 st) f fd.code A outer s H E).nox u [] (us.map .own++aI n .dead) (u7 st) g [])
  (S:FnScope N ps (f8 st):=by exact⟨rfl,rfl,rfl,by decide +kernel,rfl,by decide +kernel,by decide +kernel⟩) (oX:us.length=ps.length:=by rfl) (hn:N.length=ps.length+n:=by rfl):FnOk P w K mg base CX0 (k+1) f fd ps (spD K ps.length (fnD us n g) u):=by
 obtain⟨oc,od,kV,doc,pm,an,gH,ct,qm,e,lk,nI⟩:=F.ex;obtain⟨c,p,h1,h2,h3⟩:=b3Y lt X G a lk;exact b3X F S oX hn (hb S c p h1 h2 h3)
def c0p(zY:mg x=cz (.ref fa))(d:DP K mg x st)(h:∀base:cM,K.In base->base.Ns bU mg->∀fd,Fun K x x st fa fd->FnOk P w K mg base CX0 k fa fd [p] sp)(b:∀(kV doc pm:ai) (an:Option aC) (gH ct v:ai),rH (gf x x (Q2 st) (u7 st) (f8 st) .none kV doc pm an gH ct) ⟨[v],[]⟩=pure [(p,v)]:=by intros;rfl) :
  ∃fd:dU,(∀(s:ao) (v:ai),oR s fd ⟨[v],[]⟩ [(p,v)])/\∀base:cM,K.In base->base.Ns bU mg->FnOk P w K mg base CX0 k fa fd [p] sp:=by
 obtain⟨f,fd,F,a,m⟩:=d.ex;rw[zY]at m;cases m
 refine⟨fd,λs v=>?_,λbase X G=>h base X G fd F⟩;obtain⟨oc,od,kV,doc,pm,an,gH,ct,qm,rfl,lk,nI⟩:=F.ex;exact .of_eq (b kV doc pm an gH ct v)
end
section
variable {X:Cx}{M:List Md}{e e0:Expr}{es:List Expr}{fe:EvE}{f:EvA}{c:Cat}{u:Ty}{pos p:fV}{x:bM}
abbrev mdF:Md:=.own .f
abbrev mdI:Md:=.own .i
abbrev mdL:Md:=.own (.l .i)
abbrev mdD:Md:=.dead
def b9(i:Nat)(hN:X.N[i]?=cz x:=by rfl)(hv:autoParam (NmV X x) ZY._auto_1)(hm:M[i]?=cz (.own .f):=by rfl):PX X M (.Name x pos) (a4 i) (.bor .f):=q8 i hN hv hm
def c9(i:Nat)(hN:X.N[i]?=cz x:=by rfl)(hv:autoParam (NmV X x) ZY._auto_1)(hm:M[i]?=cz (.own .i):=by rfl):PX X M (.Name x pos) (a4 i) (.bor .i):=q8 i hN hv hm
def N0(i:Nat)(hN:X.N[i]?=cz x:=by rfl)(hv:autoParam (NmV X x) ZY._auto_1)(hm:M[i]?=cz (.own (.l .i)):=by rfl):PX X M (.Name x pos) (a4 i) (.bor (.l .i)):=q8 i hN hv hm
def z9(i:Nat)(hN:X.N.Nodup)(hi:X.N[i]?=cz x:=by rfl)(hx:autoParam (Loc X.env.scope x) ZX._auto_1)(hf:autoParam (X.fn x=rp\/X.env.scope.names.lookup x=cz .local) ZZ._auto_1):PG X (.Name x pos) (V0 i):=o6 hN hi hx hf
def u5(hm:X.mg "len"=p4)(h:PX X M e fe c)(hg:Gl X "len":=by rfl)(he:au [e] X.env=(xn,cI e X.env)::au [] X.env:=by rfl)(gK:(cD pos (au [] X.env)).any (·.1)=xn:=by rfl):PX X M (.Call (.Name "len" p) [e] [] pos) (eCl z0 (a6 fe b8)) (.new .i):=Q5 b9f hm rM (a7 h c8 he) hg (by decide) (by decide) he gK
def m4(W:Has X.prog X.w X.K X.mg X.base x k ps (spD X.K n m u))(hr:Room k X.A)(h:PAX X M (e0::es) f)(hu:u.shut=rp:=by rfl)(hl:(e0::es).length=n:=by rfl)(hfl:∀U ds,f U=cz ds->ds.length=(e0::es).length:=by first|exact l7 D0|exact l7 (l7 D0)|exact l7 (l7 (l7 D0))|exact l7 (l7 (l7 (l7 D0)))|exact l7 (l7 (l7 (l7 (l7 D0)))))
  (hg:Gl X x:=by rfl) (mH:(x==("__debug__":bM))=xn:=by decide) (he:au (e0::es) X.env=(xn,cI e0 X.env)::au es X.env:=by rfl) (gK:(cD pos (au es X.env)).any (·.1)=xn:=by rfl) :
  PX X M (.Call (.Name x p) (e0::es) [] pos) (eCl m f) (.new u):=a2x W hr h hu hl hfl hg mH he gK
def a0q(hu:X.A.units+464<dF:=by exact Room.units (by assumption)):OpS X (cR .Eq) dEq:=os_eq hu
def b4k(hu:X.A.units+464<dF:=by exact Room.units (by assumption)):OpS X (cR .NotEq) dNe:=c1q hu
end
end VS
namespace VS
open L2
section
variable {a b c:EvE}{U:List D}{d x y:D}
def chE(g':D->D->Option D):Option D->Option D->EvE->List D->Option D
 |some (.bool rp),cz y,c,U=>l2 g' (cz y) (c U)
 |some (.bool xn),cz _,_,_=>cz (.bool xn)
 |_,_,_,_=>p4
def c3H:eCh g g' a b c U=chE g' (l2 g (a U) (b U)) (b U) c U:=by
 unfold eCh;cases a U with
 |none=>rfl
 |some x=>
  cases b U with
  |none=>rfl
  |some y=>
   show (g x y).bind _=chE g' (g x y) (cz y) c U;cases g x y with
   |none=>rfl
   |some z=>
    cases z with
    |bool k=>
     cases k with
     |false=>rfl
     |true=>cases h:c U<;>simp[chE,asB,h,l2]
    |_=>rfl
def c2g:chE g' (cz (.bool rp)) (cz y) c U=l2 g' (cz y) (c U):=rfl
def c2h:chE g' (cz (.bool xn)) (cz y) c U=cz (.bool xn):=rfl
def c3I:(rp==rp)=rp:=rfl
def c3J:(rp==xn)=xn:=rfl
def c3K:(xn==rp)=xn:=rfl
def c3L:(xn==xn)=rp:=rfl
def c3M:(rp !=rp)=xn:=rfl
def c3N:(rp !=xn)=rp:=rfl
def c3O:(xn !=rp)=rp:=rfl
def c3P:(xn !=xn)=xn:=rfl
def trB:tr (.bool k)=cz k:=rfl
def c2i:asB (.bool k)=cz k:=rfl
def b4l:isN .none=rp:=rfl
def b7f:isN (.int i)=xn:=rfl
def b4m:isN (.bool i)=xn:=rfl
def b4n:isN (.list ds)=xn:=rfl
def b7g:isN (.tuple ds)=xn:=rfl
def c0q:a7P k x .none=cz (.bool (k !=isN x)):=rfl
def b1J:isInt (.int i)=rp:=rfl
def a8B:isInt (.bool i)=rp:=rfl
def a8C:isInt .none=xn:=rfl
def a8D:isInt (.list ds)=xn:=rfl
def b1K:isInt (.tuple ds)=xn:=rfl
def b1L:isInt (.str s)=xn:=rfl
def a8E:isInt (.dict s)=xn:=rfl
def a8F:isBool (.int i)=xn:=rfl
def a7e:isBool (.bool i)=rp:=rfl
def a7f:isBool .none=xn:=rfl
def a7g:isBool (.list ds)=xn:=rfl
def a8G:isBool (.tuple ds)=xn:=rfl
def a8H:isBool (.str s)=xn:=rfl
def a7h:isBool (.dict s)=xn:=rfl
def isList_list:isList (.list ds)=rp:=rfl
def isList_int:isList (.int i)=xn:=rfl
def a7i:isList .none=xn:=rfl
def isList_bool:isList (.bool i)=xn:=rfl
def a8I:isList (.tuple ds)=xn:=rfl
def isList_str:isList (.str s)=xn:=rfl
def isList_dict:isList (.dict s)=xn:=rfl
def a7j:a5v (.tuple ds)=rp:=rfl
def isTuple_list:a5v (.list ds)=xn:=rfl
def isTuple_int:a5v (.int i)=xn:=rfl
def lIs:Option D->Option D
 |some d=>b2N d
 |none=>p4
def a4J:eI a U=lIs (a U):=by unfold eI;cases a U<;>rfl
def a9Q(h:c7 ds=rp):lIs (cz (.list ds))=cz (.list ds):=by
 show (if c7 ds=rp then cz (cA ds) else p4)=_;rw[aE h]
def b4o:Option D->Option D
 |some (.list ds)=>cz (.list ds)
 |some (.tuple ds)=>cz (.list ds)
 |_=>p4
def a9R:G8 a U=b4o (a U):=by
 unfold G8;cases a U with
 |none=>rfl
 |some d=>cases d<;>rfl
def c2j:b4o (cz (.list ds))=cz (.list ds):=rfl
def c2k:b4o (cz (.tuple ds))=cz (.list ds):=rfl
def lL:Option D->Option (List D)
 |some d=>asL d
 |none=>p4
def a8J:iL a U=lL (a U):=by unfold iL;cases a U<;>rfl
def c3Q:lL (cz (.list ds))=cz ds:=rfl
def lII:Option (List D)->Option (List D)
 |some ds=>if c7 ds then cz ds else p4
 |none=>p4
def c2l:iI f U=lII (f U):=by unfold iI;cases f U<;>rfl
def a0r(h:f U=cz ds)(hi:c7 ds=rp):iI f U=cz ds:=by rw[c2l,h];show (if c7 ds=rp then cz ds else p4)=_;rw[aE hi]
def c0r{ds:List D}(h:ds.length<1000000):b9I i (.list ds) (cz d) U=cz (.nx (U.set i (.list (ds++[d])))):=a2Y h
def c0s:p6 i U d=cz (U.set i d):=rfl
def c0t:a2S i j U (.tuple [x,y])=cz ((U.set i x).set j y):=rfl
def c2m:pt1 d=cz [d]:=rfl
def c2n:pt2 (.tuple [x,y])=cz [x,y]:=rfl
def c3R:tT U=cz rp:=rfl
end
def C0(P:List D->Prop)(h1:∃U,o=cz (.nx U)/\P U)(h2:∀U,P U->a2X (s U)=R):a2X (thn o s)=R:=by
 obtain⟨U,rfl,h⟩:=h1;exact h2 U h
def b4p(P:List D->Prop)(h1:∃U,o=cz (.nx U)/\P U)(h2:∀U,P U->s U=R):thn o s=R:=by
 obtain⟨U,rfl,h⟩:=h1;exact h2 U h
def P5{R:Option D->Prop}(P:List D->Prop)(h1:∃U,o=cz (.nx U)/\P U)(h2:∀U,P U->R (a2X (s U))):R (a2X (thn o s)):=by
 obtain⟨U,rfl,h⟩:=h1;exact h2 U h
theorem a7k(f:D->D):∀{ds:List D},(∀d∈ds,∃bs,pt d=cz bs/\g (bs++cs)=cz (f d))->U1 pt tT g cs ds=cz (ds.map f)
 |[],_=>rfl
 |d::ds,h=>by
  obtain⟨bs,h1,h2⟩:=h d aK;have ih:=a7k f (ds:=ds) λe he=>h e (ar _ he)
  show (pt d).bind _=_;rw[h1];show (g (bs++cs)).bind _=_;rw[h2];show (U1 pt tT g cs ds).bind _=_;rw[ih];rfl
def a3s{js:List Nat}(f:D->D)(hf:fi U=cz ds)(hl:ds.length<=1000000)(h:∀d∈ds,∃bs,pt d=cz bs/\g (bs++js.map λj=>U.getD j .none)=cz (f d)) :
  m6 fi js pt tT g U=cz (.list (ds.map f)):=by
 unfold m6;rw[hf];show (if ds.length<=1000000 then _ else p4)=_;rw[aE hl,a7k f h];rfl
def a2A{js:List Nat}(f:Nat->D)(ha:a U=cz (.int n))(h0:0<=n)(h1:n<=1000000)(h:∀k:Nat,(k:Int)<n->g (.int k::js.map λj=>U.getD j .none)=cz (f k)) :
  m6 (iR a) js pt1 tT g U=cz (.list ((aw n.toNat).map f)):=by
 rw[a3s (ds:=E1 0 n.toNat) (λd=>match d with|.int i=>f i.toNat|_=>.none) (b0W ha h0 (by lia)) (by rw[a8b];lia)]
 ·unfold E1;rw[bC]
  congr 2;refine bW λk _=>?_
  show f (0+(k:Int)).toNat=f k
  congr 1;lia
 ·intro d hd;unfold E1 at hd;obtain⟨k,hk,rfl⟩:=aG.mp hd;have:=bu.mp hk;refine⟨_,rfl,?_⟩;have e:(0:Int)+(k:Int)=k:=by lia
  rw[e];exact h k (by lia)
theorem l5(f:α->D)(h:∀x,imm (f x)=rp):∀xs:List α,c7 (xs.map f)=rp
 |[]=>by simp only[cX,c7]
 |x::xs=>by simp only[aB,c7,h x,l5 f h xs,eK]
end VS
namespace Prog
open L2 VS
abbrev iD(ns:List Int):D:=.list (ns.map .int)
end Prog
namespace VS
open L2
def b8g{a b:D}(ha:a.canLay0=rp)(hb:b.canLay0=rp)(hd:a.depth<=450):dEq a b=cz (.bool (aR a b)):=by
 unfold dEq b2B;rw[ha,hb,aV hd];simp
theorem a5N(f:α->D)(h:∀x,(f x).canLay0=rp):∀xs:List α,bp (xs.map f)=rp
 |[]=>by simp only[cX,bp]
 |x::xs=>by simp only[aB,bp,h x,a5N f h xs,eK]
theorem Y1(f:α->D)(n:Nat)(h:∀x,(f x).depth<=n):∀xs:List α,c_ (xs.map f)<=n
 |[]=>by simp only[cX,c_];exact bL _
 |x::xs=>by
  simp only[aB,c_];exact Nat.max_le.mpr ⟨h x,Y1 f n h xs⟩
def b7h:(aP i).canLay0=rp:=by simp only[eX]
def a1x:(aP i).depth=0:=by simp only[fI]
def lay_ints(ns:List Int):(cA (ns.map .int)).canLay0=rp:=by
 simp only[eX];exact a5N _ (λ_=>b7h) ns
def a8K(ns:List Int):(cA (ns.map .int)).depth<=1:=by
 simp only[fI];have:=Y1 aP 0 (λx=>by rw[a1x];exact az _) ns;lia
theorem a3t:∀(xs ys:List Int),cy (xs.map aP) (ys.map aP)=decide (xs=ys)
 |[],[]=>by simp[cy]
 |[],_::_=>by simp[cy]
 |_::_,[]=>by simp[cy]
 |x::xs,y::ys=>by
  have:aR (.int x) (.int y)=decide (x=y):=by
   show (x==y)=decide (x=y);exact gB x y
  simp only[aB,cy,this,a3t xs ys,gu];by_cases h1:x=y<;>by_cases h2:xs=ys<;>simp[h1,h2]
def c2o{xs ys:List Int}:dEq (.list (xs.map .int)) (.list (ys.map .int))=cz (.bool (decide (xs=ys))):=by
 rw[b8g (lay_ints _) (lay_ints _) (cC (a8K _) (by decide))];simp only[aR,a3t]
def a5O:Option D->Option D->Option D
 |some (.list ds),cz (.list es)=>if ds.length+es.length<=br then cz (.list (ds++es)) else p4
 |_,_=>p4
def a3u:F8 a b U=a5O (a U) (b U):=by
 unfold F8;cases a U with
 |none=>rfl
 |some x=>
  cases x with
  |list ds=>
   cases b U with
   |none=>rfl
   |some y=>cases y<;>rfl
  |_=>cases b U<;>rfl
def b4q{ds es:List D}(h:ds.length+es.length<=16777216):a5O (cz (.list ds)) (cz (.list es))=cz (.list (ds++es)):=by
 show (if ds.length+es.length<=br then _ else _)=_;rw[aE (show ds.length+es.length<=br from h)]
def lSl:Option D->Option (Option Int)->Option (Option Int)->Option D
 |some (.list ds),cz l,cz h=>cz (.list (cutD ds l h))
 |_,_,_=>p4
def c3S:eSl a lo hi U=lSl (a U) (lo U) (hi U):=by
 unfold eSl;cases a U with
 |none=>rfl
 |some x=>
  cases x with
  |list ds=>
   cases lo U with
   |none=>rfl
   |some y=>cases hi U<;>rfl
  |_=>cases lo U<;>cases hi U<;>rfl
def c2p:lSl (cz (.list ds)) (cz l) (cz h)=cz (.list (cutD ds l h)):=rfl
def c2q:oNo U=cz p4:=rfl
def lO:Option D->Option (Option Int)
 |some (.int i)=>cz (cz i)
 |_=>p4
def c2r:oSo a U=lO (a U):=by
 unfold oSo;cases a U with
 |none=>rfl
 |some x=>cases x<;>rfl
def c3T:lO (cz (.int i))=cz (cz i):=rfl
def c0u{ds:List D}{k:Int}(h0:0<=k)(h1:k<=ds.length):cutD ds p4 (cz k)=ds.take k.toNat:=by
 unfold cutD HT.sIx
 dsimp only
 rw[aM (by lia),List.drop_zero,Nat.sub_zero,l_ (by lia)]
def P6{xs ys:List Int}(h:xs.length+ys.length<=16777216):a5O (cz (.list (xs.map .int))) (cz (.list (ys.map .int)))=cz (.list ((xs++ys).map .int)):=by
 rw[b4q (by simpa using h),aT]
def a0X{xs:List Int}:lIs (cz (.list (xs.map .int)))=cz (.list (xs.map .int)):=a9Q (p8 _)
def a2B:aR (.int x) (.int y)=decide (x=y):=by
 show (x==y)=decide (x=y);exact gB x y
def at0{α:Type}{x:α}{xs:List α}:L2.atI (x::xs) 0=cz x:=by
 unfold L2.atI ixN;rw[aE (by decide),aE (by simp only[aS];lia)];rfl
def at1{α:Type}{x y:α}{xs:List α}:L2.atI (x::y::xs) 1=cz y:=by
 unfold L2.atI ixN;rw[aE (by decide),aE (by simp only[aS];lia)];rfl
def t9{enc:α->D}{set:List D->D->Option (List D)}{xs:List α}(I:List α->List D->Prop)(h0:I [] U)
  (step:∀pre x post,xs=pre++x::post->∀U,I pre U->∃U1 U2,set U (enc x)=cz U1/\g U1=cz (.nx U2)/\I (pre++[x]) U2) :
  ∃U',U7 set g (xs.map enc) U=cz (.nx U')/\I xs U':=by
 have key:∀(post pre:List α) (U:List D),xs=pre++post->I pre U->∃U',U7 set g (post.map enc) U=cz (.nx U')/\I xs U':=by
  intro post
  induction post with
  |nil=>
   intro pre U e h;rw[aX]at e;subst e;exact⟨U,rfl,h⟩
  |cons x post ih=>
   intro pre U e h;obtain⟨U1,U2,h1,h2,h3⟩:=step pre x post e U h;obtain⟨U',h4,h5⟩:=ih (pre++[x]) U2 (by rw[e,aH];rfl) h3;refine⟨U',?_,h5⟩;show (set U (enc x)).bind _=_;rw[h1];show (g U1).bind _=_;rw[h2];exact h4
 exact key xs [] U rfl h0
def b1M:E1 0 n=(aw n).map λ(k:Nat)=>aP k:=by
 unfold E1;refine bW λk _=>?_
 show aP (0+(k:Int))=.int k;rw[Int.zero_add]
def W5(h:aw n=pre++x::post):x=pre.length/\x<n/\pre=aw x:=by
 have hx:(aw n)[pre.length]?=cz x:=by rw[h];simp
 have jN:pre.length<n:=by have:=dG dQ h;simp at this;lia
 rw[eY jN]at hx;have e:x=pre.length:=(aF hx).symm;refine⟨e,by lia,?_⟩;have:=dG (List.take pre.length) h;rw[List.take_append_of_le_length (az _),FQ,qH,l_ (by lia)]at this;rw[e,this]
def L1{set:List D->D->Option (List D)}(I:Nat->List D->Prop)(h0:I 0 U)
  (step:∀k,k<n->∀U,I k U->∃U1 U2,set U (.int k)=cz U1/\g U1=cz (.nx U2)/\I (k+1) U2) :
  ∃U',U7 set g (E1 0 n) U=cz (.nx U')/\I n U':=by
 rw[b1M];obtain⟨U',h1,h2⟩:=t9 (enc:=λ(k:Nat)=>aP k) (set:=set) (g:=g) (xs:=aw n) (U:=U) (λpre U=>I pre.length U) h0 λpre x post e U h=>by
  obtain⟨e1,e2,_⟩:=W5 e;subst e1;obtain⟨U1,U2,a,b,c⟩:=step pre.length e2 U h;exact⟨U1,U2,a,b,by rw[av];exact c⟩
 rw[bB]at h2;exact⟨U',h1,h2⟩
def big:Int:=10^60
def c0v:1000<big:=by decide
abbrev g9:=List (List (Int×Int))
def stD(p:Int×Int):D:=.tuple [.int p.1,.int p.2]
def rwD(r:List (Int×Int)):D:=.list (r.map stD)
def rowAt(m:g9)(s:Int):List (Int×Int):=m.getD s.toNat []
def stp(m:g9)(s a:Int):Int×Int:=(rowAt m s).getD a.toNat (0,0)
structure WF (m:g9) (k:Nat):Prop where
 pos:0<m.length
 le:m.length<=30
 k1:1<=k
 k5:k<=5
 rows:∀r∈m,r.length=k
 next:∀r∈m,∀p∈r,0<=p.2/\p.2<(m.length:Int)
def E6{m:g9}{s:Int}(h0:0<=s)(h1:s<m.length):rowAt m s∈m:=by
 unfold rowAt;rw[ah,ab (by lia)];exact dh _
def WF.row{m:g9}{k:Nat}(w:WF m k){s:Int}(h0:0<=s)(h1:s<m.length):(rowAt m s).length=k:=w.rows _ (E6 h0 h1)
def b7i{m:g9}{k:Nat}(w:WF m k){s a:Int}(h0:0<=s)(h1:s<m.length)(h2:0<=a)(h3:a<k):stp m s a∈rowAt m s:=by
 have:=w.row h0 h1;unfold stp;rw[ah,ab (by lia)];exact dh _
def WF.nx{m:g9}{k:Nat}(w:WF m k){s a:Int}(h0:0<=s)(h1:s<m.length)(h2:0<=a)(h3:a<k):0<=(stp m s a).2/\(stp m s a).2<(m.length:Int):=w.next _ (E6 h0 h1) _ (b7i w h0 h1 h2 h3)
def a2s{m:g9}{s:Int}(h0:0<=s)(h1:s<m.length):L2.atI (m.map rwD) s=cz (rwD (rowAt m s)):=by
 rw[a1m h0 (by rw[af];exact h1),dE];unfold rowAt;rw[ah,ab (by lia)];rfl
def b1N{r:List (Int×Int)}{a:Int}(h0:0<=a)(h1:a<r.length):dIx (rwD r) (.int a)=cz (stD (r.getD a.toNat (0,0))):=by
 show L2.atI (r.map stD) a=_;rw[a1m h0 (by rw[af];exact h1),dE,ah,ab (by lia)];rfl
def c2s:dIx (stD p) (.int 0)=cz (.int p.1):=rfl
def c2t:dIx (stD p) (.int 1)=cz (.int p.2):=rfl
def a1y:imm (stD p)=rp:=by unfold stD;simp only[imm,c7,eK]
def c0w:a5q (stD p)=cz (stD p):=b3f a1y
def b7j:a5q (.int i)=cz (.int i):=b3f Q9
def c2u:z0 [rwD r]=cz (.int r.length):=by
 show cz (aP ((r.map stD).length:Nat))=_;rw[af]
def b7k:b3c i j (cz (stD p)) U=cz (.nx ((U.set i (.int p.1)).set j (.int p.2))):=rfl
def b4r(p:Int×Int):(stD p).canLay0=rp:=by unfold stD;simp[eX,bp]
def a7l(p:Int×Int):(stD p).depth<=1:=by unfold stD;simp[fI,c_]
def i6(m:g9):Int->List Int->List Int×Int
 |s,[]=>([],s)
 |s,a::p=>((stp m s a).1::(i6 m (stp m s a).2 p).1,(i6 m (stp m s a).2 p).2)
theorem a4K(m:g9):∀(p q:List Int) (s:Int),i6 m s (p++q)=((i6 m s p).1++(i6 m (i6 m s p).2 q).1,(i6 m (i6 m s p).2 q).2)
 |[],q,s=>rfl
 |a::p,q,s=>by
  show ((stp m s a).1::(i6 m (stp m s a).2 (p++q)).1,(i6 m (stp m s a).2 (p++q)).2)=_;rw[a4K m p q];rfl
theorem a4L(m:g9):∀(p:List Int) (s:Int),(i6 m s p).1.length=p.length
 |[],s=>rfl
 |a::p,s=>by
  show (i6 m (stp m s a).2 p).1.length+1=_;rw[a4L m p];rfl
theorem Y2{m:g9}{k:Nat}(w:WF m k):∀(p:List Int) (s:Int),0<=s->s<m.length->(∀a∈p,0<=a/\a<(k:Int))->0<=(i6 m s p).2/\(i6 m s p).2<(m.length:Int)
 |[],s,h0,h1,_=>⟨h0,h1⟩
 |a::p,s,h0,h1,h=>by
  have ha:=h a aK;have hn:=w.nx h0 h1 ha.1 ha.2;exact Y2 w p _ hn.1 hn.2 λb hb=>h b (ar _ hb)
def R8(m:g9)(p:List Int)(a s:Int):i6 m s (p++[a])=((i6 m s p).1++[(stp m (i6 m s p).2 a).1],(stp m (i6 m s p).2 a).2):=by
 rw[a4K];rfl
def c3U:Option Out->Option D
 |some (.rt d)=>cz d
 |some (.nx _)=>cz .none
 |_=>p4
def c2v(h:argsOk us ds=rp):fnN us n g ds=c3U (g (ds++aI n .none)):=by
 unfold fnN;rw[aE h];cases g (ds++aI n .none) with
 |none=>rfl
 |some o=>cases o<;>rfl
section
variable {i:Nat}{t u2:Ty}{U ds es:List D}{e d:D}{fe fj fa:EvE}{j a:Int}
def a8L{n:Nat}(h0:0<=j)(h1:j<n):ixN n j=cz j.toNat:=by
 unfold ixN;rw[aE h0,aE h1]
def c2w(h:U.getD i .none=.list ds)(hf:fe U=cz d)(hj:fj U=cz (.int j))(h0:0<=j)(h1:j<ds.length):b0S i (.l t) y7 fj fe U=cz (.nx (U.set i (.list (ds.set j.toNat d)))):=by
 unfold b0S y7;rw[hf,h];show (fj U).bind _=_;rw[hj];show (ixN ds.length j).bind _=_;rw[a8L h0 h1];rfl
end
def eq_nil{p:List Int}:dEq (.list (p.map .int)) (.list [])=cz (.bool (decide (p=[]))):=c2o (ys:=[])
def c0x:b4o (cz (rwD r))=cz (rwD r):=rfl
def c2x:lIs (cz (rwD r))=cz (rwD r):=a9Q (l5 _ (λ_=>a1y) r)
def c0y{m:g9}(h:a U=cz (.list (m.map rwD)))(hl:m.length<=1000):m6 (iL a) [] pt1 tT (eI (G8 (a4 0))) U=cz (.list (m.map rwD)):=by
 rw[a3s (ds:=m.map rwD) id]
 ·rw[List.map_id]
 ·rw[a8J,h];rfl
 ·rw[af];lia
 ·intro d hd;obtain⟨r,_,rfl⟩:=aG.mp hd;refine⟨_,rfl,?_⟩;show eI (G8 (a4 0)) [rwD r]=cz (rwD r);rw[a4J,a9R];show lIs (b4o (cz (rwD r)))=_;rw[c0x,c2x]
end VS
namespace Prog
open L2 VS
def top(i:Nat):iO:=PySem.Challenge.pw_probewell_k54_probes_of_a_book.main.body.getD i (.Pass ⟨0,0,0,0⟩)
structure Bn (K:ag) (mg:bM->Option ai):Prop where
 d0:DP K mg "_law_mixed" (top 41)
 d1:DP K mg "_law_drawn" (top 42)
 d2:DP K mg "_law_machine" (top 43)
 d3:DP K mg "first_of_classes" (top 30)
 d4:DP K mg "renumbered" (top 17)
 d5:DP K mg "finer_level" (top 16)
 d6:DP K mg "levels_of" (top 15)
 d7:DP K mg "ways_from" (top 27)
 d8:DP K mg "ways_by_state" (top 26)
 d9:DP K mg "reached" (top 25)
 d10:DP K mg "least" (top 29)
 d11:DP K mg "_law_next" (top 45)
 d12:DP K mg "_law_end" (top 46)
 d13:DP K mg "_law_due" (top 47)
 d14:DP K mg "ways" (top 24)
 d15:DP K mg "rank" (top 10)
 d16:DP K mg "marks_among" (top 22)
 d17:DP K mg "first_parting" (top 19)
 d18:DP K mg "first_unlike" (top 18)
 d19:DP K mg "apart_from" (top 14)
 d20:DP K mg "apart" (top 13)
 d21:DP K mg "marks" (top 21)
 d22:DP K mg "_law_extra" (top 44)
 d23:DP K mg "is_whole" (top 5)
 d24:DP K mg "need_size" (top 34)
 d25:DP K mg "one_ask_longer" (top 35)
 d26:DP K mg "rows_of" (top 32)
 d27:DP K mg "asks_of" (top 8)
 d28:DP K mg "walked" (top 11)
 d29:DP K mg "book_probes" (top 39)
 d30:DP K mg "book_size" (top 33)
 d31:DP K mg "book" (top 38)
 d32:DP K mg "law" (top 48)
 bool_:mg "bool"=p4
 enumerate_:mg "enumerate"=p4
 int_:mg "int"=p4
 isinstance_:mg "isinstance"=p4
 len_:mg "len"=p4
 list_:mg "list"=p4
 max_:mg "max"=p4
 min_:mg "min"=p4
 range_:mg "range"=p4
 reversed_:mg "reversed"=p4
 set_:mg "set"=p4
 sorted_:mg "sorted"=p4
 tuple_:mg "tuple"=p4
 MOST_IN_BOOK_:∃t,mg "MOST_IN_BOOK"=cz (.int 3000 t)
 MOST_STATES_:∃t,mg "MOST_STATES"=cz (.int 30 t)
structure Bk (P:bA) (w:bQ) (K:ag) (mg:bM->Option ai) (base:cM):Prop extends Bn K mg
variable {P:bA}{w:bQ}{K:ag}{mg:bM->Option ai}{base:cM}
abbrev HB(_:Bk P w K mg base):=Has P w K mg base
def c2y:(["answer","after","numbers"]:List bM).Nodup:=by decide +kernel
def c3V:(["row"]:List bM).Nodup:=by decide +kernel
def c3W:(["step"]:List bM).Nodup:=by decide +kernel
def c3X:(["number","places"]:List bM).Nodup:=by decide +kernel
def c3Y:(["state","machine","numbers"]:List bM).Nodup:=by decide +kernel
def c3Z:(["state","found"]:List bM).Nodup:=by decide +kernel
def c2z:(["probe"]:List bM).Nodup:=by decide +kernel
def c4a:(["level","one","other"]:List bM).Nodup:=by decide +kernel
def c4b:(["other","machine","levels","state"]:List bM).Nodup:=by decide +kernel
def c2A:(["state","machine","levels"]:List bM).Nodup:=by decide +kernel
def c2B:(["probes"]:List bM).Nodup:=by decide +kernel
def c2C:(["ask","row"]:List bM).Nodup:=by decide +kernel
def c2D:(["probe","machine"]:List bM).Nodup:=by decide +kernel
def b8h:(["_law_row"]:List bM).Nodup:=by decide +kernel
def b8i:(["_law_probe","_law_answers"]:List bM).Nodup:=by decide +kernel
def b_law_mixed:EvS:=(f7 (i5 2 (eC (.int 3))) (f7 (sIf (tB (e2 dGt (eCl z0 (a6 (a4 0) b8)) (eC (.int 0)))) (i5 2 (e2 p5 (a4 0) (e2 K4 (a4 1) (eCl z0 (a6 (a4 0) b8))))) E3) (f7 (i5 2 (e2 K4 (e2 a0C (e2 G6 (e2 G6 (e2 K4 (a4 2) (eC (.int 2147483629))) (e2 a0C (eC (.int 7919)) (a4 1))) (eC (.int 1))) (eC (.int 48271))) (eC (.int 2147483647)))) (v5 (e2 K4 (e2 a0C (a4 2) (e2 G6 (e2 G6 (e2 K4 (a4 2) (eC (.int 65521))) (a4 1)) (eC (.int 2)))) (eC (.int 2147483629)))))))
def m_law_mixed:=fnD [.f,.i] 1 b_law_mixed
abbrev N1(B:Bk P w K mg base)(k:Nat):=HB B "_law_mixed" k ["_law_script","_law_k"] (spD K 2 m_law_mixed .i)
def ok_law_mixed(B:Bk P w K mg base):N1 B 1:=
 m7 B.d0 λ_ _ F=>fnF F ["_law_script","_law_k","_law_cell"] λsc _ _ _ _ _ _ _=>by exact a9 (f6 2 sc.nd (a8 b7)) (a9 (M9 (r9 a4v (u5 B.len_ (b9 0)) b7) (e7 (f6 2 sc.nd (a8 (u9 (b9 0) (i9 x5 (c9 1) (u5 B.len_ (b9 0))))))) C2) (a9 (f6 2 sc.nd (a8 (i9 x5 (i9 Q4 (i9 v8 (i9 v8 (i9 x5 (c9 2) b7) (i9 Q4 b7 (c9 1))) b7) b7) b7))) (e7 (k9 (a8 (i9 x5 (i9 Q4 (c9 2) (i9 v8 (i9 v8 (i9 x5 (c9 2) b7) (c9 1)) b7)) b7))))))
def b_law_drawn:EvS:=(f7 (i5 5 (x6 b8)) (f7 (y6 (iR (a4 2)) (p6 6) (f7 (i5 7 (x6 b8)) (f7 (y6 (iR (a4 3)) (p6 8) (f7 (i5 9 (eCl m_law_mixed (a6 (a4 0) (a6 (e2 G6 (e2 G6 (a4 1) (e2 a0C (a4 6) (a4 3))) (a4 8)) b8)))) (W1 7 (.l .i) y7 (a0F (a6 (e2 p5 (a4 4) (e2 K4 (a4 9) (eC (.int 2)))) (a6 (e2 K4 (e2 b5T (a4 9) (eC (.int 6))) (a4 2)) b8)))))) (W1 5 (.l (.l .i)) y7 (a4 7))))) (v5 (a4 5))))
def m_law_drawn:=fnD [.f,.i,.i,.i,.f] 5 b_law_drawn
abbrev a2b(B:Bk P w K mg base)(k:Nat):=HB B "_law_drawn" k ["_law_script","_law_at","_law_states","_law_asks","_law_pool"] (spD K 5 m_law_drawn (.l (.l .i)))
def ok_law_drawn(B:Bk P w K mg base)(cZ:N1 B 1):a2b B 2:=
 m7 B.d1 λ_ _ F=>fnF F ["_law_script","_law_at","_law_states","_law_asks","_law_pool","_law_rows","_law_s","_law_row","_law_a","_law_cell"] λsc _ _ _ _ _ _ hr=>by exact a9 (f6 5 sc.nd (a8 (q9 (n:=0) l6))) (a9 (A6 rfl bJ (z8 B.range_ (c9 2)) (z9 6 sc.nd) Q6 b6i (PSsX.weak (a9 (f6 7 sc.nd (a8 (q9 (n:=0) l6))) (a9 (A6 rfl bJ (z8 B.range_ (c9 3)) (z9 8 sc.nd) Q6 b6i (PSsX.weak (a9 (f6 9 sc.nd (a8 (m4 cZ hr (a7 (b9 0) (a7 (i9 v8 (i9 v8 (c9 1) (i9 Q4 (c9 6) (c9 3))) (c9 8)) c8))))) (e7 (a2U 7 (Q7 7) (a8 (a5r (n:=2) (j9 (u9 (b9 4) (i9 x5 (c9 9) b7)) (j9 (i9 x5 (i9 b8Z (c9 9) b7) (c9 2)) l6)))) a2T))) l8 ((l9 8).trans (l9 9)))) (e7 (a2U 5 (Q7 5) (B9 7) a2T)))) l8 (l9 6))) (e7 (k9 (B9 5))))
def b_law_machine:EvS:=(f7 (i5 1 (e2 G6 (eC (.int 1)) (e2 K4 (eCl m_law_mixed (a6 (a4 0) (a6 (eC (.int 0)) b8))) (eC (.int 5))))) (f7 (i5 2 (e2 G6 (eC (.int 1)) (e2 K4 (eCl m_law_mixed (a6 (a4 0) (a6 (eC (.int 1)) b8))) (eC (.int 3))))) (f7 (sIf (tB (e2 dEq (e2 K4 (eCl m_law_mixed (a6 (a4 0) (a6 (eC (.int 2)) b8))) (eC (.int 8))) (eC (.int 2)))) (f7 (i5 1 (e2 G6 (eC (.int 6)) (e2 K4 (eCl m_law_mixed (a6 (a4 0) (a6 (eC (.int 0)) b8))) (eC (.int 5))))) (i5 2 (e2 G6 (eC (.int 1)) (e2 K4 (eCl m_law_mixed (a6 (a4 0) (a6 (eC (.int 1)) b8))) (eC (.int 2)))))) E3) (f7 (sIf (tB (e2 dEq (e2 K4 (eCl m_law_mixed (a6 (a4 0) (a6 (eC (.int 2)) b8))) (eC (.int 8))) (eC (.int 6)))) (f7 (i5 1 (e2 G6 (eC (.int 1)) (e2 K4 (eCl m_law_mixed (a6 (a4 0) (a6 (eC (.int 0)) b8))) (eC (.int 2))))) (i5 2 (e2 G6 (eC (.int 4)) (e2 K4 (eCl m_law_mixed (a6 (a4 0) (a6 (eC (.int 1)) b8))) (eC (.int 2)))))) E3) (f7 (i5 3 (x6 (a6 (eC (.int 0)) (a6 (eC (.int 1)) b8)))) (f7 (sIf (tB (e2 dEq (e2 K4 (eCl m_law_mixed (a6 (a4 0) (a6 (eC (.int 3)) b8))) (eC (.int 3))) (eC (.int 0)))) (i5 3 (x6 (a6 (e2 Y7 (eC (.int 1)) (e2 b0J (eC (.int 10)) (eC (.int 60)))) (a6 (e2 Y7 (e2 G6 (e2 K4 (e2 b0J (eCl m_law_mixed (a6 (a4 0) (a6 (eC (.int 4)) b8))) (eC (.int 7))) (e2 Y7 (e2 a0C (eC (.int 2)) (e2 b0J (eC (.int 10)) (eC (.int 60)))) (eC (.int 1)))) (eC (.int 1))) (e2 b0J (eC (.int 10)) (eC (.int 60)))) b8)))) E3) (v5 (eCl m_law_drawn (a6 (a4 0) (a6 (eC (.int 10)) (a6 (a4 1) (a6 (a4 2) (a6 (a4 3) b8)))))))))))))
def m_law_machine:=fnD [.f] 3 b_law_machine
abbrev Z8(B:Bk P w K mg base)(k:Nat):=HB B "_law_machine" k ["_law_script"] (spD K 1 m_law_machine (.l (.l .i)))
def ok_law_machine(B:Bk P w K mg base)(cZ:N1 B 2)(jW:a2b B 2):Z8 B 3:=
 m7 B.d2 λ_ _ F=>fnF F ["_law_script","_law_states","_law_asks","_law_pool"] λsc _ _ _ _ _ _ hr=>by exact a9 (f6 1 sc.nd (a8 (i9 v8 b7 (i9 x5 (m4 cZ hr (a7 (b9 0) (a7 b7 c8))) b7)))) (a9 (f6 2 sc.nd (a8 (i9 v8 b7 (i9 x5 (m4 cZ hr (a7 (b9 0) (a7 b7 c8))) b7)))) (a9 (M9 (r9 a0q (i9 x5 (m4 cZ hr (a7 (b9 0) (a7 b7 c8))) b7) b7) (a9 (f6 1 sc.nd (a8 (i9 v8 b7 (i9 x5 (m4 cZ hr (a7 (b9 0) (a7 b7 c8))) b7)))) (e7 (f6 2 sc.nd (a8 (i9 v8 b7 (i9 x5 (m4 cZ hr (a7 (b9 0) (a7 b7 c8))) b7)))))) C2) (a9 (M9 (r9 a0q (i9 x5 (m4 cZ hr (a7 (b9 0) (a7 b7 c8))) b7) b7) (a9 (f6 1 sc.nd (a8 (i9 v8 b7 (i9 x5 (m4 cZ hr (a7 (b9 0) (a7 b7 c8))) b7)))) (e7 (f6 2 sc.nd (a8 (i9 v8 b7 (i9 x5 (m4 cZ hr (a7 (b9 0) (a7 b7 c8))) b7)))))) C2) (a9 (f6 3 sc.nd (a8 (q9 (n:=2) (j9 b7 (j9 b7 l6))))) (a9 (M9 (r9 a0q (i9 x5 (m4 cZ hr (a7 (b9 0) (a7 b7 c8))) b7) b7) (e7 (f6 3 sc.nd (a8 (q9 (n:=2) (j9 (i9 Q3 b7 (i9 a5m b7 b7)) (j9 (i9 Q3 (i9 v8 (i9 x5 (i9 a5m (m4 cZ hr (a7 (b9 0) (a7 b7 c8))) b7) (i9 Q3 (i9 Q4 b7 (i9 a5m b7 b7)) b7)) b7) (i9 a5m b7 b7)) l6)))))) C2) (e7 (k9 (a8 (m4 jW hr (a7 (b9 0) (a7 b7 (a7 (c9 1) (a7 (c9 2) (a7 (N0 3) c8))))))))))))))
def L3:EvS:=(f7 (i5 2 (eC (.dict []))) (f7 (y6 (iI (iL (a4 0))) (p6 3) (b3q (U2 2 xn (e2 p5 (a4 1) (a4 3)) (a4 3)))) (v5 (a5F (a4 2)))))
def w9:=fnD [.f,.f] 2 L3
abbrev L4(B:Bk P w K mg base)(k:Nat):=HB B "first_of_classes" k ["states","finest"] (spD K 2 w9 (.l .i))
def Y8(B:Bk P w K mg base):L4 B 1:=
 m7 B.d3 λ_ _ F=>fnF F ["states","finest","found","state"] λsc _ _ _ _ _ _ hr=>by exact a9 (f6 2 sc.nd (a8 (O8 xn .i))) (a9 (A6 rfl bJ (PIX.i (k8 (PX.newf (b9 0)))) (z9 3 sc.nd) Q6 a8a (PSsX.weak (e7 (b9P (a6I 2 (by exact hr.units) (u9 (b9 1) (c9 3)) (PX.newi (c9 3))))) l8 (l9 3))) (e7 (k9 (a8 (b3B rfl B.list_ (q8 2))))))
def R9:EvS:=(v5 (m6 (iI (iL (a4 0))) [1] pt2 tT (a0F (a6 (a4 0) (a6 (e2 p5 (a4 2) (a4 1)) b8)))))
def j5:=fnD [.f,.f] 0 R9
abbrev J0(B:Bk P w K mg base)(k:Nat):=HB B "renumbered" k ["row","numbers"] (spD K 2 j5 (.l .i))
def a4e(B:Bk P w K mg base):J0 B 1:=
 m7 B.d4 λ_ _ F=>fnF F ["row","numbers"] λ_ _ _ _ _ _ _ _=>by exact e7 (k9 (a8 (u8 rfl (tn:=["answer","after"]) (ys:=["numbers"]) (m:=.i) (PIX.i (k8 (PX.newf (b9 0)))) rfl (λ_ _ _ _ _=>a2E rfl (A8 (o6 (i:=0) c2y rfl (eD rfl) (.inr rfl)) (A8 (o6 (i:=1) c2y rfl (eD rfl) (.inr rfl)) a0y))) a9x (.inl rfl) c1v rfl (λ_ _ _ _ _=>t8) (λ_ _ _ _ _=>(a5r (n:=2) (j9 (PX.newi (c9 0)) (j9 (u9 (b9 2) (c9 1)) l6)))))))
def Z9:EvS:=(f7 (i5 2 (eC (.dict []))) (f7 (i5 3 (x6 b8)) (f7 (y6 (iL (a4 0)) (p6 4) (f7 (i5 5 (O6 (eCl j5 (a6 (a4 4) (a6 (a4 1) b8))))) (a6H 3 (U2 2 rp (a4 5) (eCl a3b (a6 (a4 2) b8)))))) (v5 (a4 3)))))
def u6:=fnD [.f,.f] 4 Z9
abbrev a0a(B:Bk P w K mg base)(k:Nat):=HB B "finer_level" k ["machine","level"] (spD K 2 u6 (.l .i))
def a3v(B:Bk P w K mg base)(d_:J0 B 1):a0a B 2:=
 m7 B.d5 λ_ _ F=>fnF F ["machine","level","numbers","finer","row","seen"] λsc _ _ _ _ _ _ hr=>by exact a9 (f6 2 sc.nd (a8 (O8 rp .i))) (a9 (f6 3 sc.nd (a8 (q9 (n:=0) l6))) (a9 (A6 rfl bJ (k8 (PX.newf (b9 0))) (z9 4 sc.nd) a0j (λ_ _ _ _ _=>trivial) (PSsX.weak (a9 (f6 5 sc.nd (a8 (a0I B.tuple_ (m4 d_ hr (a7 (b9 4) (a7 (b9 1) c8)))))) (e7 (b6r 3 (a6I 2 (kt:=rp) (by exact hr.units) (PX.newi (c9 5)) (a5B (kt:=rp) B.len_ (q8 2))) (hni:=a8j (by decide))))) l8 ((l9 4).trans (l9 5)))) (e7 (k9 (B9 3)))))
def a2c:EvS:=(f7 (i5 1 (x6 (a6 (m6 (iL (a4 0)) [] pt1 tT (eC (.int 0))) b8))) (f7 (i5 2 (eCl u6 (a6 (a4 0) (a6 (e2 a3X (a4 1) (eC (.int (-1)))) b8)))) (f7 (sWh (λ_=>1000000) (tB (e2 dGt (eCl Z6 (a6 (a4 2) b8)) (eCl Z6 (a6 (e2 a3X (a4 1) (eC (.int (-1)))) b8)))) (f7 (Y0 1 2 (eCl u6 (a6 (a4 0) (a6 (a4 2) b8)))) E3)) (v5 (a4 1)))))
def C5:=fnD [.f] 2 a2c
abbrev W6(B:Bk P w K mg base)(k:Nat):=HB B "levels_of" k ["machine"] (spD K 1 C5 (.l (.l .i)))
def a5P(B:Bk P w K mg base)(hU:a0a B 2):W6 B 3:=
 m7 B.d6 λ_ _ F=>fnF F ["machine","levels","finer"] λsc _ _ _ _ _ _ hr=>by exact a9 (f6 1 sc.nd (a8 (q9 (n:=1) (j9 (u8 rfl (tn:=["row"]) (ys:=[]) (m:=.f) (k8 (PX.newf (b9 0))) rfl (λ_ _ _ _ _=>o6 (i:=0) c3V rfl (eD rfl) (.inr rfl)) v9 (.inr rfl) a2R rfl (λ_ _ _ _ _=>t8) (λ_ _ _ _ _=>b7)) l6)))) (a9 (f6 2 sc.nd (a8 (m4 hU hr (a7 (b9 0) (a7 (a5t (q8 1) (a5o)) c8))))) (a9 (V9 (λ_=>1000000) bJ (r9 a4v (Q5 (a9B rfl) B.max_ PyProof.Rows.Boot.«max» (a7 (N0 2) c8)) (Q5 (a9B rfl) B.max_ PyProof.Rows.Boot.«max» (a7 (a5t (q8 1) (a5o)) c8))) (b1e 1 2 (by decide) sc.nd rfl rfl rfl rfl (a6L hU hr (X9 (PXL.of (b9 0)) (X9 (a6J) (a6K))) (hfl:=(l7 (l7 D0)))) C2)) (e7 (k9 (B9 1)))))
def a2d:(List D->Option D)->EvS:=λgm=>(f7 (i5 2 (eD1 xn (a4 0) (x6 b8))) (f7 (i5 3 (x6 (a6 (a4 0) b8))) (f7 (sWh (λ_=>1000000) (tV (a4 3)) (f7 (i5 4 (x6 b8)) (f7 (y6 (iI (iL (a4 3))) (p6 5) (y6 (iI (iEn (eCl gm (a6 (a4 5) b8)))) (a2S 6 7) (sIf (tB (e2 (dIn rp xn) (a4 7) (a4 2))) (f7 (A9 2 xn (a4 7) (eI (F8 (e2 (a5A xn) (a4 2) (a4 5)) (x6 (a6 (a4 6) b8))))) (W1 4 (.l .i) y7 (a4 7))) E3))) (i5 3 (a4 4))))) (v5 (a4 2)))))
def N2:=fnL [.i] 6 a2d
abbrev a2e(B:Bk P w K mg base)(k:Nat):=HB B "ways_from" k ["start","led_to"] (spL K 1 (λgm=>FnV P w K mg base 1 1 (.l .i) gm) N2 (.d xn (.l .i)))
def a5Q(B:Bk P w K mg base):a2e B 2:=
 m7 B.d7 λ_ _ F=>c3F F ["start","led_to","found","newest","newer","place","ask","after"] λsc gm _ _ _ _ _ _ hr=>by exact a9 (f6 2 sc.nd (a8 (b3y (kt:=xn) (by exact hr.units) (c9 0) (q9 (n:=0) l6)))) (a9 (f6 3 sc.nd (a8 (q9 (n:=1) (j9 (PX.newi (c9 0)) l6)))) (a9 (V9 (M:=[mdI,.fn (FnV P w K mg base 1 1 (.l .i) gm),.own (.d xn (.l .i)),mdL,mdD,mdD,mdD,mdD]) (λ_=>1000000) bJ (a9s (N0 3)) (a9 (f6 4 sc.nd (a8 (q9 (n:=0) l6))) (a9 (PSX.weak (A6 (M:=[mdI,.fn (FnV P w K mg base 1 1 (.l .i) gm),.own (.d xn (.l .i)),mdF,mdL,mdD,mdD,mdD]) rfl bJ (PIX.i (k8 (PX.newf (b9 3)))) (z9 5 sc.nd) Q6 a8a (PSsX.weak (e7 (a5D (fi:=(iI (iEn (eCl gm (a6 (a4 5) b8))))) (M:=[mdI,.fn (FnV P w K mg base 1 1 (.l .i) gm),.own (.d xn (.l .i)),mdF,mdL,mdI,mdD,mdD]) rfl bJ (b9T B.enumerate_ (PX.frz (b3R 1 (k:=1) (n:=1) (m:=gm) (hr.mono (by decide)) (a7 (c9 5) c8) (hfl:=(l7 D0))))) (a2E rfl (A8 (z9 6 sc.nd) (A8 (z9 7 sc.nd) a0y))) (a7X (w:=.i) (.inr rfl)) (λU ds h d hd _=>a8a U ds h d hd) b3x (PSsX.weak (e7 (M9 (b3m (kt:=xn) (a4C (by exact hr.units)) (c9 7) (q8 2)) (a9 (a0N 2 (kt:=xn) (by exact hr.units) (c9 7) (a8 (MkL.i (a0i (b9L (kt:=xn) (by exact hr.units) (q8 2) (c9 5)) (q9 (n:=1) (j9 (PX.newi (c9 6)) l6)))))) (e7 (a2U 4 (Q7 4) (a8 (PX.newi (c9 7))) a2T))) C2)) l8 ((l9 6).trans (l9 7))))) l8 (l9 5))) (V8 3) l8) (e7 (f6 3 sc.nd (B9 4)))))) (e7 (k9 (B9 2)))))
def U3:EvS:=(v5 (b6W N2 [.i] [0] (m6 (iI (iL (e2 dIx (a4 1) (a4 0)))) [] pt1 tT (e2 p5 (a4 0) (eC (.int 1)))) (a6 (eC (.int 0)) b8)))
def t5:=fnD [.f] 0 U3
abbrev G7(B:Bk P w K mg base)(k:Nat):=HB B "ways_by_state" k ["machine"] (spD K 1 t5 (.d xn (.l .i)))
def a1z(B:Bk P w K mg base)(jT:a2e B 2)(LT:(A0 K "ways_by_state").isSome=rp)(KB:K.In base)(GB:base.Ns bU mg):G7 B 3:=
 b7e B.d8 λ_ _ F a=>c3G F ["machine"] LT KB GB a λ_ _ _ xo xA xm A outer s H _ hr=>by exact e7 (k9 (a8 (by exact a8w (kf:=0) (uf:=(.l .i)) (N:=["state","machine"]) (pl:=["state"]) (ys:=["machine"]) jT hr (b3U b7 (b6V (by decide) xA xo xm rfl)) ⟨_,_,_,rfl,rfl,rfl,rfl,rfl,rfl⟩ ⟨⟨_,rfl⟩,trivial⟩ (by exact⟨rfl,rfl,rfl,by decide +kernel,rfl,by decide +kernel,by decide +kernel,by decide +kernel,rfl⟩) rfl (λ_ _ _ us hl=>by obtain⟨_,rfl⟩:=VS.b9Z hl;rfl) (λfa c A outer s H hr=>u8 rfl (tn:=["step"]) (ys:=[]) (PIX.i (k8 (A5 (PX.newf (b9 1)) (c9 0)))) rfl (λ_ _ _ _ _=>o6 (i:=0) c3W rfl (eD rfl) (.inr rfl)) v9 (.inl rfl) a4z rfl (λ_ _ _ _ _=>t8) (λ_ _ _ _ _=>(u9 (c9 0) b7))) (hfl:=(b3T b6R)))))
def a4M:EvS:=(v5 (a5E (eCl t5 (a6 (a4 0) b8))))
def Y3:=fnD [.f] 0 a4M
abbrev a4N(B:Bk P w K mg base)(k:Nat):=HB B "reached" k ["machine"] (spD K 1 Y3 (.l .i))
def a8M(B:Bk P w K mg base)(eU:G7 B 3):a4N B 4:=
 m7 B.d9 λ_ _ F=>fnF F ["machine"] λ_ _ _ _ _ _ _ hr=>by exact e7 (k9 (a8 (b3A rfl B.list_ (m4 eU hr (a7 (b9 0) c8)))))
def a9S:EvS:=(f7 (i5 1 (e2 dIx (eCl C5 (a6 (a4 0) b8)) (eC (.int (-1))))) (f7 (i5 2 (eCl w9 (a6 (eCl Y3 (a6 (a4 0) b8)) (a6 (a4 1) b8)))) (f7 (i5 3 (eC (.dict []))) (f7 (y6 (iI (iEn (a4 2))) (a2S 4 5) (A9 3 xn (e2 p5 (a4 1) (a4 5)) (a4 4))) (f7 (i5 6 (m6 (iI (iL (a4 1))) [3] pt1 tT (e2 (a3a xn) (a4 1) (a4 0)))) (v5 (m6 (iI (iL (a4 2))) [0,6] pt1 tT (eCl j5 (a6 (e2 dIx (a4 1) (a4 0)) (a6 (a4 2) b8))))))))))
def S6:=fnD [.f] 6 a9S
abbrev a5R(B:Bk P w K mg base)(k:Nat):=HB B "least" k ["machine"] (spD K 1 S6 (.l (.l .i)))
def b4s(B:Bk P w K mg base)(gz:L4 B 4)(d_:J0 B 4)(gD:W6 B 4)(lK:a4N B 4):a5R B 5:=
 m7 B.d10 λ_ _ F=>fnF F ["machine","finest","firsts","places","place","state","numbers"] λsc _ _ _ _ _ _ hr=>by exact a9 (f6 1 sc.nd (a8 (A5 (PX.frz (m4 gD hr (a7 (b9 0) c8))) (a5o)))) (a9 (f6 2 sc.nd (a8 (m4 gz hr (a7 (m4 lK hr (a7 (b9 0) c8)) (a7 (b9 1) c8))))) (a9 (f6 3 sc.nd (a8 (O8 xn .i))) (a9 (PSX.weak (a5D (fi:=(iI (iEn (a4 2)))) rfl bJ (b9T B.enumerate_ (PX.newf (b9 2))) (a2E rfl (A8 (z9 4 sc.nd) (A8 (z9 5 sc.nd) a0y))) (a7X (.inr rfl)) (λU ds h d hd _=>a8a U ds h d hd) b3x (PSsX.weak (e7 (a0N 3 (by exact hr.units) (u9 (b9 1) (c9 5)) (a8 (PX.newi (c9 4))))) l8 ((l9 4).trans (l9 5)))) (V8 2) l8) (a9 (f6 6 sc.nd (a8 (u8 rfl (tn:=["number"]) (ys:=["places"]) (PIX.i (k8 (PX.newf (b9 1)))) rfl (λ_ _ _ _ _=>o6 (i:=0) c3X rfl (eD rfl) (.inr rfl)) v9 (.inl rfl) a4z rfl (λ_ _ _ _ _=>t8) (λ_ _ _ _ _=>(PX.newi (b9N (by exact hr.units) (q8 1) (c9 0))))))) (e7 (k9 (a8 (u8 rfl (tn:=["state"]) (ys:=["machine","numbers"]) (PIX.i (k8 (PX.newf (b9 2)))) rfl (λ_ _ _ _ _=>o6 (i:=0) c3Y rfl (eD rfl) (.inr rfl)) v9 (.inl rfl) a4z rfl (λ_ _ _ _ _=>t8) (λ_ _ _ _ _=>(m4 d_ hr (a7 (A5 (PX.newf (b9 1)) (c9 0)) (a7 (N0 2) c8))))))))))))
def b_law_next:EvS:=(f7 (i5 0 (eI (G8 (a4 0)))) (f7 (i5 2 (e2 Y7 (eCl z0 (a6 (a4 0) b8)) (eC (.int 1)))) (f7 (sWh (λ_=>1000000) (tAn (tB (e2 dGe (a4 2) (eC (.int 0)))) (tB (e2 dEq (e2 a3X (a4 0) (a4 2)) (e2 Y7 (a4 1) (eC (.int 1)))))) (f7 (b0S 0 (.l .i) y7 (a4 2) (eC (.int 0))) (i5 2 (e2 Y7 (a4 2) (eC (.int 1)))))) (f7 (sIf (tB (e2 dLt (a4 2) (eC (.int 0)))) (v5 (eI (F8 (a4 0) (x6 (a6 (eC (.int 0)) b8))))) E3) (f7 (b0S 0 (.l .i) y7 (a4 2) (e2 G6 (e2 a3X (a4 0) (a4 2)) (eC (.int 1)))) (v5 (a4 0)))))))
def m_law_next:=fnD [.f,.i] 1 b_law_next
abbrev a3w(B:Bk P w K mg base)(k:Nat):=HB B "_law_next" k ["_law_row","_law_asks"] (spD K 2 m_law_next (.l .i))
def ok_law_next(B:Bk P w K mg base):a3w B 1:=
 m7 B.d11 λ_ _ F=>fnF F ["_law_row","_law_asks","_law_at"] λsc _ _ _ _ _ _ hr=>by exact a9 (f6 0 sc.nd (a8 (MkL.i (a0H B.list_ (PX.newf (b9 0)))))) (a9 (f6 2 sc.nd (a8 (i9 Q3 (u5 B.len_ (N0 0)) b7))) (a9 (V9 (M:=[mdL,mdI,mdI]) (λ_=>1000000) bJ (PWX.pt (b5Y (r9 c1p (c9 2) b7) (b2L (r9 a0q (a5t (N0 0) (c9 2)) (i9 Q3 (c9 1) b7))))) (a9 (b2Z 0 (Q7 0) (c9 2) (a8 b7) a2T) (e7 (f6 2 sc.nd (a8 (i9 Q3 (c9 2) b7)))))) (a9 (M9 (r9 c1o (c9 2) b7) (e7 (k9 (a8 (MkL.i (a0i (N0 0) (q9 (n:=1) (j9 b7 l6))))))) C2) (a9 (b2Z 0 (Q7 0) (c9 2) (a8 (i9 v8 (a5t (N0 0) (c9 2)) b7)) a2T) (e7 (k9 (B9 0)))))))
def b_law_end:EvS:=(f7 (y6 (iI (iL (a4 2))) (p6 3) (i5 1 (e2 p5 (e2 p5 (e2 dIx (a4 0) (a4 1)) (a4 3)) (eC (.int 1))))) (v5 (a4 1)))
def m_law_end:=fnD [.f,.i,.f] 1 b_law_end
abbrev a4O(B:Bk P w K mg base)(k:Nat):=HB B "_law_end" k ["_law_machine_here","_law_state","_law_probe"] (spD K 3 m_law_end .i)
def ok_law_end(B:Bk P w K mg base):a4O B 1:=
 m7 B.d12 λ_ _ F=>fnF F ["_law_machine_here","_law_state","_law_probe","_law_ask"] λsc _ _ _ _ _ _ _=>by exact a9 (A6 rfl bJ (PIX.i (k8 (PX.newf (b9 2)))) (z9 3 sc.nd) Q6 a8a (PSsX.weak (e7 (f6 1 sc.nd (a8 (u9 (u9 (A5 (PX.newf (b9 0)) (c9 1)) (c9 3)) b7)))) l8 (l9 3))) (e7 (k9 (a8 (PX.newi (c9 1)))))
def b_law_due:EvS:=(f7 (i5 4 (eC (.dict []))) (f7 (i5 5 (x6 b8)) (f7 (sWh (λ_=>1000000) (tB (e2 dLe (eCl z0 (a6 (a4 5) b8)) (e2 G6 (eCl (z7 rp) (a6 (eC (.int 0)) (a6 (e2 Y7 (a4 1) (eCl z0 (a6 (a4 0) b8))) b8))) (eC (.int 1))))) (f7 (y6 (iR (eCl z0 (a6 (a4 0) b8))) (p6 6) (y6 (iL (e2 dIx (a4 3) (eCl m_law_end (a6 (a4 0) (a6 (a4 6) (a6 (a4 5) b8)))))) (p6 7) (A9 4 rp (a9w (F8 (F8 (e2 dIx (a4 2) (a4 6)) (a4 5)) (a4 7))) (eC (.bool rp))))) (i5 5 (eCl m_law_next (a6 (a4 5) (a6 (eCl z0 (a6 (e2 dIx (a4 0) (eC (.int 0))) b8)) b8)))))) (v5 (a4 4)))))
def m_law_due:=fnD [.f,.i,.f,.f] 4 b_law_due
abbrev a4P(B:Bk P w K mg base)(k:Nat):=HB B "_law_due" k ["_law_small","_law_most","_law_heads","_law_tails"] (spD K 4 m_law_due (.d rp .i))
def ok_law_due(B:Bk P w K mg base)(kK:a3w B 1)(lN:a4O B 1):a4P B 2:=
 m7 B.d13 λ_ _ F=>fnF F ["_law_small","_law_most","_law_heads","_law_tails","_law_due_here","_law_middle","_law_state","_law_mark"] λsc _ _ _ _ _ _ hr=>by exact a9 (f6 4 sc.nd (a8 (O8 rp .i))) (a9 (f6 5 sc.nd (a8 (q9 (n:=0) l6))) (a9 (V9 (M:=[mdF,mdI,mdF,mdF,.own (.d rp .i),mdL,mdD,mdD]) (λ_=>1000000) bJ (r9 b2C (u5 B.len_ (N0 5)) (i9 v8 (Q5 (a5u rfl) B.max_ PyProof.Rows.Boot.«max» (a7 b7 (a7 (i9 Q3 (c9 1) (u5 B.len_ (b9 0))) c8))) b7)) (a9 (A6 (M:=[mdF,mdI,mdF,mdF,.own (.d rp .i),mdL,mdD,mdD]) rfl bJ (z8 B.range_ (u5 B.len_ (b9 0))) (z9 6 sc.nd) Q6 b6i (PSsX.weak (e7 (A6 (M:=[mdF,mdI,mdF,mdF,.own (.d rp .i),mdL,mdI,mdD]) rfl bJ (k8 (A5 (PX.newf (b9 3)) (m4 lN hr (a7 (b9 0) (a7 (c9 6) (a7 (N0 5) c8)))))) (z9 7 sc.nd) a0j (λ_ _ _ _ _=>trivial) (PSsX.weak (e7 (a0N 4 (kt:=rp) (by exact hr.units) (b0P B.tuple_ (MkL.t (a0i (MkL.t (a0i (A5 (PX.newf (b9 2)) (c9 6)) (N0 5))) (PX.newf (b9 7))))) (a8 a2O))) l8 (l9 7)))) l8 (l9 6))) (e7 (f6 5 sc.nd (a8 (m4 kK hr (a7 (N0 5) (a7 (u5 B.len_ (A5 (PX.newf (b9 0)) b7)) c8)))))))) (e7 (k9 (B9 4)))))
def b4t:EvS:=(f7 (i5 1 (eCl t5 (a6 (a4 0) b8))) (v5 (m6 (iR (eCl z0 (a6 (a4 0) b8))) [1] pt1 tT (e2 (a9D xn) (a4 1) (a4 0)))))
def S7:=fnD [.f] 1 b4t
abbrev a8N(B:Bk P w K mg base)(k:Nat):=HB B "ways" k ["machine"] (spD K 1 S7 .f)
def b7l(B:Bk P w K mg base)(eU:G7 B 3):a8N B 4:=
 m7 B.d14 λ_ _ F=>fnF F ["machine","found"] λsc _ _ _ _ _ _ hr=>by exact a9 (f6 1 sc.nd (a8 (m4 eU hr (a7 (b9 0) c8)))) (e7 (PSX.weak (k9 (a8 (PX.frz (u8 rfl (tn:=["state"]) (ys:=["found"]) (z8 B.range_ (u5 B.len_ (b9 0))) rfl (λ_ _ _ _ _=>o6 (i:=0) c3Z rfl (eD rfl) (.inr rfl)) v9 (.inl rfl) a6x rfl (λ_ _ _ _ _=>t8) (λ_ _ _ _ _=>(b6z (by exact hr.units) (PX.newf (b9 1)) (c9 0))))))) (V8 1) l8))
def b4u:EvS:=(v5 (a0F (a6 (eCl z0 (a6 (a4 0) b8)) (a6 (a4 0) b8))))
def a0s:=fnD [.i] 0 b4u
abbrev a8O(B:Bk P w K mg base)(k:Nat):=HB B "rank" k ["probe"] (spD K 1 a0s .i)
def b7m(B:Bk P w K mg base):a8O B 1:=
 m7 B.d15 λ_ _ F=>fnF F ["probe"] λ_ _ _ _ _ _ _ _=>by exact e7 (k9 (a8 (a5r (n:=2) (j9 (u5 B.len_ (c9 0)) (j9 (PX.newi (c9 0)) l6)))))
def a0b:EvS:=(f7 (i5 1 (eC (.dict []))) (f7 (y6 (iL (a4 0)) (p6 2) (sIf (tB (e2 (a7P rp) (a4 2) (eC .none))) (A9 1 rp (O6 (a4 2)) (eC (.bool rp))) E3)) (v5 (b6P (m6 (iI (iL (a0p a0s (a4 1)))) [] pt1 tT (eI (G8 (a4 0)))) (x6 (a6 (x6 b8) b8))))))
def B0:=fnD [.f] 2 a0b
abbrev a0c(B:Bk P w K mg base)(k:Nat):=HB B "marks_among" k ["probes"] (spD K 1 B0 (.l (.l .i)))
def a3x(B:Bk P w K mg base)(lM:a8O B 1):a0c B 4:=
 m7 B.d16 λ_ _ F=>fnF F ["probes","found","probe"] λsc _ _ _ _ _ _ hr=>by exact a9 (f6 1 sc.nd (a8 (O8 rp .i))) (a9 (A6 rfl bJ (k8 (PX.newf (b9 0))) (z9 2 sc.nd) a0j (λ_ _ _ _ _=>trivial) (PSsX.weak (e7 (M9 (r9 b5V (b9 2) b2I) (e7 (a0N 1 (kt:=rp) (by exact hr.units) (a0I B.tuple_ (b9 2)) (a8 a2O))) C2)) l8 (l9 2))) (e7 (k9 (a8 (c0f (u8 rfl (tn:=["probe"]) (ys:=[]) (m:=.i) (PIX.i (k8 (PX.frz (a6V rfl B.sorted_ lM hr (q8 1))))) rfl (λ_ _ _ _ _=>o6 (i:=0) c2z rfl (eD rfl) (.inr rfl)) v9 (.inl rfl) a4z rfl (λ_ _ _ _ _=>t8) (λ_ _ _ _ _=>(MkL.i (a0H B.list_ (PX.newi (c9 0)))))) (b2J (q9 (n:=1) (j9 (q9 (n:=0) l6) l6))))))))
def U4:EvS:=(f7 (i5 2 (eC (.int 0))) (f7 (sWh (λ_=>1000000) (tB (e2 dEq (e2 p5 (a4 0) (a4 2)) (e2 p5 (a4 1) (a4 2)))) (b3t 2 (eC (.int 1)))) (v5 (a4 2))))
def t6:=fnD [.f,.f] 1 U4
abbrev U5(B:Bk P w K mg base)(k:Nat):=HB B "first_parting" k ["seen","against"] (spD K 2 t6 .i)
def a1A(B:Bk P w K mg base):U5 B 1:=
 m7 B.d17 λ_ _ F=>fnF F ["seen","against","ask"] λsc _ _ _ _ _ _ hr=>by exact a9 (f6 2 sc.nd (a8 b7)) (a9 (V9 (λ_=>1000000) bJ (r9 a0q (u9 (b9 0) (c9 2)) (u9 (b9 1) (c9 2))) (e7 (b9Q 2 sc.nd b7))) (e7 (k9 (a8 (PX.newi (c9 2))))))
def W7:EvS:=(f7 (i5 4 (e2 a3d (m6 (iL (a4 1)) [2,3] pt1 tT (e2 dEq (e2 p5 (a4 0) (a4 1)) (e2 p5 (a4 0) (a4 2)))) (eC (.bool rp)))) (f7 (sIf (tB (e2 dEq (a4 4) (eCl z0 (a6 (a4 1) b8)))) (v5 (eC .none)) E3) (f7 (i5 5 (x6 b8)) (f7 (y6 (iRv (eSl (a4 1) oNo (oSo (a4 4)))) (p6 6) (f7 (i5 7 (eCl t6 (a6 (eCl j5 (a6 (e2 dIx (a4 0) (a4 2)) (a6 (a4 6) b8))) (a6 (eCl j5 (a6 (e2 dIx (a4 0) (a4 3)) (a6 (a4 6) b8))) b8)))) (f7 (W1 5 (.l .i) y7 (a4 7)) (f7 (i5 2 (e2 p5 (e2 p5 (e2 dIx (a4 0) (a4 2)) (a4 7)) (eC (.int 1)))) (i5 3 (e2 p5 (e2 p5 (e2 dIx (a4 0) (a4 3)) (a4 7)) (eC (.int 1)))))))) (v5 (a4 5))))))
def y9:=fnD [.f,.f,.i,.i] 4 W7
abbrev W8(B:Bk P w K mg base)(k:Nat):=HB B "first_unlike" k ["machine","levels","one","other"] (spD K 4 y9 (.l .i))
def a2t(B:Bk P w K mg base)(d_:J0 B 1)(ig:U5 B 1):W8 B 2:=
 m7 B.d18 λ_ _ F=>fnF F ["machine","levels","one","other","many","probe","level","ask"] λsc _ _ _ _ _ _ hr=>by exact a9 (f6 4 sc.nd (a8 (b3w (by exact hr.units) (u8 rfl (tn:=["level"]) (ys:=["one","other"]) (m:=.f) (k8 (PX.newf (b9 1))) rfl (λ_ _ _ _ _=>o6 (i:=0) c4a rfl (eD rfl) (.inr rfl)) v9 (.inr rfl) a2R rfl (λ_ _ _ _ _=>t8) (λ_ _ _ _ _=>(b9b a0q (u9 (b9 0) (c9 1)) (u9 (b9 0) (c9 2))))) a2O))) (a9 (M9 (r9 a0q (c9 4) (u5 B.len_ (b9 1))) (e7 (k9 (a8 (PX.itol b2I)))) C2) (a9 (f6 5 sc.nd (a8 (q9 (n:=0) l6))) (a9 (A6 rfl bJ (b6s B.reversed_ (PX.frz (MkL.fz (b2V (PX.newf (b9 1)) b2S (b2T (c9 4)))))) (z9 6 sc.nd) a0j (λ_ _ _ _ _=>trivial) (PSsX.weak (a9 (f6 7 sc.nd (a8 (m4 ig hr (a7 (m4 d_ hr (a7 (A5 (PX.newf (b9 0)) (c9 2)) (a7 (b9 6) c8))) (a7 (m4 d_ hr (a7 (A5 (PX.newf (b9 0)) (c9 3)) (a7 (b9 6) c8))) c8))))) (a9 (a2U 5 (Q7 5) (a8 (PX.newi (c9 7))) a2T) (a9 (f6 2 sc.nd (a8 (u9 (u9 (A5 (PX.newf (b9 0)) (c9 2)) (c9 7)) b7))) (e7 (f6 3 sc.nd (a8 (u9 (u9 (A5 (PX.newf (b9 0)) (c9 3)) (c9 7)) b7))))))) l8 ((l9 6).trans (l9 7)))) (e7 (k9 (B9 5))))))
def a0Y:EvS:=(v5 (m6 (iR (eCl z0 (a6 (a4 0) b8))) [0,1,2] pt1 tT (eCl y9 (a6 (a4 1) (a6 (a4 2) (a6 (a4 3) (a6 (a4 0) b8)))))))
def D5:=fnD [.f,.f,.i] 0 a0Y
abbrev a0Z(B:Bk P w K mg base)(k:Nat):=HB B "apart_from" k ["machine","levels","state"] (spD K 3 D5 (.l (.l .i)))
def a4f(B:Bk P w K mg base)(iy:W8 B 2):a0Z B 3:=
 m7 B.d19 λ_ _ F=>fnF F ["machine","levels","state"] λ_ _ _ _ _ _ _ hr=>by exact e7 (k9 (a8 (u8 rfl (tn:=["other"]) (ys:=["machine","levels","state"]) (z8 B.range_ (u5 B.len_ (b9 0))) rfl (λ_ _ _ _ _=>o6 (i:=0) c4b rfl (eD rfl) (.inr rfl)) v9 (.inl rfl) a6x rfl (λ_ _ _ _ _=>t8) (λ_ _ _ _ _=>(m4 iy hr (a7 (b9 1) (a7 (b9 2) (a7 (c9 3) (a7 (c9 0) c8)))))))))
def a9T:EvS:=(f7 (i5 1 (eCl C5 (a6 (a4 0) b8))) (v5 (m6 (iR (eCl z0 (a6 (a4 0) b8))) [0,1] pt1 tT (eCl D5 (a6 (a4 1) (a6 (a4 2) (a6 (a4 0) b8)))))))
def a1a:=fnD [.f] 1 a9T
abbrev a9U(B:Bk P w K mg base)(k:Nat):=HB B "apart" k ["machine"] (spD K 1 a1a (.l (.l (.l .i))))
def b4v(B:Bk P w K mg base)(gD:W6 B 3)(jz:a0Z B 3):a9U B 4:=
 m7 B.d20 λ_ _ F=>fnF F ["machine","levels"] λsc _ _ _ _ _ _ hr=>by exact a9 (f6 1 sc.nd (a8 (m4 gD hr (a7 (b9 0) c8)))) (e7 (k9 (a8 (u8 rfl (tn:=["state"]) (ys:=["machine","levels"]) (z8 B.range_ (u5 B.len_ (b9 0))) rfl (λ_ _ _ _ _=>o6 (i:=0) c2A rfl (eD rfl) (.inr rfl)) v9 (.inl rfl) a6x rfl (λ_ _ _ _ _=>t8) (λ_ _ _ _ _=>(m4 jz hr (a7 (b9 1) (a7 (q8 2) (a7 (c9 0) c8)))))))))
def a9V:EvS:=(v5 (m6 (iL (eCl a1a (a6 (a4 0) b8))) [] pt1 tT (eCl B0 (a6 (a4 0) b8))))
def Y4:=fnD [.f] 0 a9V
abbrev a5S(B:Bk P w K mg base)(k:Nat):=HB B "marks" k ["machine"] (spD K 1 Y4 (.l (.l (.l .i))))
def b4w(B:Bk P w K mg base)(iU:a0c B 4)(nL:a9U B 4):a5S B 5:=
 m7 B.d21 λ_ _ F=>fnF F ["machine"] λ_ _ _ _ _ _ _ hr=>by exact e7 (k9 (a8 (u8 rfl (tn:=["probes"]) (ys:=[]) (k8 (PX.frz (a2x nL hr (a7 (b9 0) c8) (hfl:=(l7 D0))))) rfl (λ_ _ _ _ _=>o6 (i:=0) c2B rfl (eD rfl) (.inr rfl)) v9 (.inr rfl) a2R rfl (λ_ _ _ _ _=>t8) (λ_ _ _ _ _=>(m4 iU hr (a7 (b9 0) c8))))))
def b_law_extra:EvS:=(f7 (i5 2 (e2 p5 (x6 (a6 (eC (.int 0)) (a6 (eC (.int 1)) (a6 (eC (.int 2)) (a6 (eC (.int 0)) (a6 (eC (.int 1)) (a6 (eC (.int (-1))) b8))))))) (e2 K4 (eCl m_law_mixed (a6 (a4 0) (a6 (eC (.int 5)) b8))) (eC (.int 6))))) (f7 (sIf (b0K (tB (e2 dGt (e2 a0C (eCl z0 (a6 (a4 1) b8)) (eCl z0 (a6 (e2 dIx (a4 1) (eC (.int 0))) b8))) (eC (.int 8)))) (tB (e2 dGt (eCl z0 (a6 (e2 dIx (a4 1) (eC (.int 0))) b8)) (eC (.int 3))))) (i5 2 (eCl (z7 xn) (a6 (a4 2) (a6 (eC (.int 1)) b8)))) E3) (f7 (sIf (tB (e2 dGt (eCl z0 (a6 (a4 1) b8)) (eC (.int 5)))) (i5 2 (eCl (z7 xn) (a6 (a4 2) (a6 (eC (.int 0)) b8)))) E3) (v5 (a4 2)))))
def m_law_extra:=fnD [.f,.f] 1 b_law_extra
abbrev a2f(B:Bk P w K mg base)(k:Nat):=HB B "_law_extra" k ["_law_script","_law_machine_here"] (spD K 2 m_law_extra .i)
def ok_law_extra(B:Bk P w K mg base)(cZ:N1 B 1):a2f B 2:=
 m7 B.d22 λ_ _ F=>fnF F ["_law_script","_law_machine_here","_law_extra_here"] λsc _ _ _ _ _ _ hr=>by exact a9 (f6 2 sc.nd (a8 (u9 (q9 (n:=6) (j9 b7 (j9 b7 (j9 b7 (j9 b7 (j9 b7 (j9 (a5o) l6))))))) (i9 x5 (m4 cZ hr (a7 (b9 0) (a7 b7 c8))) b7)))) (a9 (M9 (PWX.pt (a7Q (r9 a4v (i9 Q4 (u5 B.len_ (b9 1)) (u5 B.len_ (A5 (PX.newf (b9 1)) b7))) b7) (a5p (r9 a4v (u5 B.len_ (A5 (PX.newf (b9 1)) b7)) b7)))) (e7 (f6 2 sc.nd (a8 (Q5 (b2P rfl) B.min_ PyProof.Rows.Boot.«min» (a7 (c9 2) (a7 b7 c8)))))) C2) (a9 (M9 (r9 a4v (u5 B.len_ (b9 1)) b7) (e7 (f6 2 sc.nd (a8 (Q5 (b2P rfl) B.min_ PyProof.Rows.Boot.«min» (a7 (c9 2) (a7 b7 c8)))))) C2) (e7 (k9 (a8 (PX.newi (c9 2)))))))
def a3y:EvS:=(v5 (b5W (e1 (λd=>cz (.bool (isInt d))) (a4 0)) (b5X (e1 (λd=>cz (.bool (isBool d))) (a4 0)))))
def S8:=fnD [.f] 0 a3y
abbrev a3z(B:Bk P w K mg base)(k:Nat):=HB B "is_whole" k ["thing"] (spD K 1 S8 .i)
def a7m(B:Bk P w K mg base):a3z B 1:=
 m7 B.d23 λ_ _ F=>fnF F ["thing"] λ_ _ _ _ _ _ _ _=>by exact e7 (k9 (a8 (b9c (b2Q b6b B.isinstance_ B.int_ PyProof.Rows.Boot.«int» (b9 0)) (b2J (b9d (b2Q b2R B.isinstance_ B.bool_ PyProof.Rows.Boot.«bool» (b9 0)))))))
def a2g:EvS:=(sIf (b0K (tNo (tV (eCl S8 (a6 (a4 0) b8)))) (tNo (tB (eCh dLe dLe (eC (.int 1)) (a4 0) (a4 1))))) sNo E3)
def N3:=fnN [.f,.i] 0 a2g
abbrev a2h(B:Bk P w K mg base)(k:Nat):=HB B "need_size" k ["thing","most"] (spD K 2 N3 .i)
def a5T(B:Bk P w K mg base)(kL:a3z B 1):a2h B 2:=
 m7 B.d24 λ_ _ F=>c3E F ["thing","most"] [.own .f,.own .i] λ_ _ _ _ _ _ _ hr=>by exact e7 (M9 (PWX.pt (a7Q (a9t (a9s (m4 kL hr (a7 (b9 0) c8)))) (a5p (a9t (b0L b2C b2C b7 (b9 0) (c9 1)))))) (e7 (b8a)) C2)
def P7:EvS:=(f7 (i5 2 (x6 b8)) (f7 (y6 (iL (a4 0)) (p6 3) (a6M 2 (m6 (iR (a4 1)) [3] pt1 tT (eI (F8 (a4 1) (x6 (a6 (a4 0) b8))))))) (v5 (a4 2))))
def p9:=fnD [.f,.i] 2 P7
abbrev P8(B:Bk P w K mg base)(k:Nat):=HB B "one_ask_longer" k ["rows","asks"] (spD K 2 p9 (.l (.l .i)))
def a1b(B:Bk P w K mg base):P8 B 1:=
 m7 B.d25 λ_ _ F=>fnF F ["rows","asks","found","row"] λsc _ _ _ _ _ _ _=>by exact a9 (f6 2 sc.nd (a8 (q9 (n:=0) l6))) (a9 (A6 rfl bJ (k8 (PX.newf (b9 0))) (z9 3 sc.nd) a0j (λ_ _ _ _ _=>trivial) (PSsX.weak (e7 (b6B 2 (u8 rfl (tn:=["ask"]) (ys:=["row"]) (m:=.i) (z8 B.range_ (c9 1)) rfl (λ_ _ _ _ _=>o6 (i:=0) c2C rfl (eD rfl) (.inr rfl)) v9 (.inl rfl) a6x rfl (λ_ _ _ _ _=>t8) (λ_ _ _ _ _=>(MkL.i (a0i (PX.newf (b9 1)) (q9 (n:=1) (j9 (PX.newi (c9 0)) l6)))))))) l8 (l9 3))) (e7 (k9 (B9 2))))
def a4Q:EvS:=(f7 (i5 2 (x6 (a6 (x6 b8) b8))) (f7 (i5 3 (x6 (a6 (x6 b8) b8))) (f7 (y6 (iR (a4 1)) (p6 4) (f7 (i5 3 (eCl p9 (a6 (a4 3) (a6 (a4 0) b8)))) (a1S 2 3))) (v5 (a4 2)))))
def Y5:=fnD [.i,.i] 3 a4Q
abbrev a4R(B:Bk P w K mg base)(k:Nat):=HB B "rows_of" k ["asks","most"] (spD K 2 Y5 (.l (.l .i)))
def a8P(B:Bk P w K mg base)(gZ:P8 B 1):a4R B 2:=
 m7 B.d26 λ_ _ F=>fnF F ["asks","most","found","newest","many"] λsc _ _ _ _ _ _ hr=>by exact a9 (f6 2 sc.nd (a8 (q9 (n:=1) (j9 (q9 (n:=0) l6) l6)))) (a9 (f6 3 sc.nd (a8 (q9 (n:=1) (j9 (q9 (n:=0) l6) l6)))) (a9 (b6A 2 3 4 (by decide) (by decide) (by decide) rfl rfl bJ sc.nd (z8 B.range_ (c9 1)) (a6L gZ hr (X9 (a6J) (X9 (PXL.of (c9 0)) (a6K))) (hfl:=(l7 (l7 D0))))) (e7 (k9 (B9 2)))))
def a1B:EvS:=(v5 (eCl z0 (a6 (e2 dIx (a4 0) (eC (.int 0))) b8)))
def E7:=fnD [.f] 0 a1B
abbrev a1C(B:Bk P w K mg base)(k:Nat):=HB B "asks_of" k ["machine"] (spD K 1 E7 .i)
def a8Q(B:Bk P w K mg base):a1C B 1:=
 m7 B.d27 λ_ _ F=>fnF F ["machine"] λ_ _ _ _ _ _ _ _=>by exact e7 (k9 (a8 (u5 B.len_ (A5 (PX.newf (b9 0)) b7))))
def a7n:EvS:=(f7 (i5 3 (x6 b8)) (f7 (y6 (iI (iL (a4 2))) (p6 4) (f7 (i5 5 (e2 p5 (e2 dIx (a4 0) (a4 1)) (a4 4))) (f7 (W1 3 (.l .i) y7 (e2 p5 (a4 5) (eC (.int 0)))) (i5 1 (e2 p5 (a4 5) (eC (.int 1))))))) (v5 (a0F (a6 (a4 3) (a6 (a4 1) b8))))))
def D6:=fnD [.f,.i,.f] 3 a7n
abbrev a3A(B:Bk P w K mg base)(k:Nat):=HB B "walked" k ["machine","state","probe"] (spD K 3 D6 (.tp [(.l .i),.i]))
def b1O(B:Bk P w K mg base):a3A B 1:=
 m7 B.d28 λ_ _ F=>fnF F ["machine","state","probe","answers","ask","step"] λsc _ _ _ _ _ _ _=>by exact a9 (f6 3 sc.nd (a8 (q9 (n:=0) l6))) (a9 (A6 rfl bJ (PIX.i (k8 (PX.newf (b9 2)))) (z9 4 sc.nd) Q6 a8a (PSsX.weak (a9 (f6 5 sc.nd (a8 (u9 (A5 (PX.newf (b9 0)) (c9 1)) (c9 4)))) (a9 (a2U 3 (Q7 3) (a8 (u9 (c9 5) b7)) a2T) (e7 (f6 1 sc.nd (a8 (u9 (c9 5) b7)))))) l8 ((l9 4).trans (l9 5)))) (e7 (k9 (b6e (a6z (B9 3) (a6z (a8 (PX.newi (c9 1))) (b6d)))))))
def a0d:EvS:=(f7 (i5 2 (eCl Y4 (a6 (a4 0) b8))) (f7 (i5 3 (eCl Y5 (a6 (eCl E7 (a6 (a4 0) b8)) (a6 (e2 G6 (a4 1) (eC (.int 1))) b8)))) (f7 (i5 4 (eC (.dict []))) (f7 (y6 (iEn (eCl S7 (a6 (a4 0) b8))) (a2S 5 6) (y6 (iL (a4 3)) (p6 7) (y6 (iL (e2 dIx (a4 2) (e2 dIx (eCl D6 (a6 (a4 0) (a6 (a4 5) (a6 (a4 7) b8)))) (eC (.int 1))))) (p6 8) (A9 4 rp (O6 (eI (F8 (eI (F8 (a4 6) (a4 7))) (a4 8)))) (eC (.bool rp)))))) (v5 (m6 (iI (iL (a0p a0s (a4 4)))) [] pt1 tT (eI (G8 (a4 0)))))))))
def B6:=fnD [.f,.i] 7 a0d
abbrev a0e(B:Bk P w K mg base)(k:Nat):=HB B "book_probes" k ["small","extra"] (spD K 2 B6 (.l (.l .i)))
def a3B(B:Bk P w K mg base)(lI:a8N B 5)(lM:a8O B 3)(kl:a5S B 5)(lJ:a4R B 5)(iq:a1C B 5)(je:a3A B 5):a0e B 6:=
 m7 B.d29 λ_ _ F=>fnF F ["small","extra","marked","rows","found","state","way","row","mark"] λsc _ _ _ _ _ _ hr=>by exact a9 (f6 2 sc.nd (a8 (a2x kl hr (a7 (b9 0) c8) (hfl:=(l7 D0))))) (a9 (f6 3 sc.nd (a8 (m4 lJ hr (a7 (m4 iq hr (a7 (b9 0) c8)) (a7 (i9 v8 (c9 1) b7) c8))))) (a9 (f6 4 sc.nd (a8 (O8 rp .i))) (a9 (PSX.weak (a5D (fi:=(iEn (eCl S7 (a6 (a4 0) b8)))) rfl bJ (b9T B.enumerate_ (by exact a6X lI hr (a3n (PX.newf (b9 0)) (a9H)) (hfl:=(l7 D0)))) (a2E rfl (A8 (z9 5 sc.nd) (A8 (z9 6 sc.nd) a0y))) (a7X (.inl rfl)) (λ_ _ _ _ _ e=>nomatch e) (λh=>h) (PSsX.weak (e7 (A6 rfl bJ (k8 (PX.newf (b9 3))) (z9 7 sc.nd) a0j (λ_ _ _ _ _=>trivial) (PSsX.weak (e7 (A6 rfl bJ (k8 (A5 (PX.newf (b9 2)) (b3g (j:=1) (m4 je hr (a7 (b9 0) (a7 (b9 5) (a7 (b9 7) c8))))))) (z9 8 sc.nd) a0j (λ_ _ _ _ _=>trivial) (PSsX.weak (e7 (a0N 4 (by exact hr.units) (a0I B.tuple_ (MkL.i (a0i (MkL.i (a0i (PX.newf (b9 6)) (PX.newf (b9 7)))) (PX.newf (b9 8))))) (a8 a2O))) l8 (l9 8)))) l8 (l9 7)))) l8 ((l9 5).trans (l9 6)))) ((V8 2).trans (V8 3)) l8) (e7 (k9 (a8 (u8 rfl (tn:=["probe"]) (ys:=[]) (PIX.i (k8 (PX.frz (a6V rfl B.sorted_ lM hr (q8 4))))) rfl (λ_ _ _ _ _=>o6 (i:=0) c2z rfl (eD rfl) (.inr rfl)) v9 (.inl rfl) a4z rfl (λ_ _ _ _ _=>t8) (λ_ _ _ _ _=>(MkL.i (a0H B.list_ (PX.newi (c9 0))))))))))))
def a2i:EvS:=(f7 (i5 3 (eC (.int 1))) (f7 (y6 (iR (e2 G6 (a4 2) (eC (.int 1)))) (p6 4) (i5 3 (e2 G6 (e2 a0C (a4 3) (a4 1)) (eC (.int 1))))) (v5 (e2 a0C (e2 a0C (a4 0) (a4 3)) (eCl (z7 rp) (a6 (e2 Y7 (a4 0) (eC (.int 1))) (a6 (eC (.int 1)) b8)))))))
def N4:=fnD [.i,.i,.i] 2 a2i
abbrev a2j(B:Bk P w K mg base)(k:Nat):=HB B "book_size" k ["states","asks","extra"] (spD K 3 N4 .i)
def a5U(B:Bk P w K mg base):a2j B 1:=
 m7 B.d30 λ_ _ F=>fnF F ["states","asks","extra","rows","many"] λsc _ _ _ _ _ _ _=>by exact a9 (f6 3 sc.nd (a8 b7)) (a9 (A6 rfl bJ (z8 B.range_ (i9 v8 (c9 2) b7)) (z9 4 sc.nd) Q6 b6i (PSsX.weak (e7 (f6 3 sc.nd (a8 (i9 v8 (i9 Q4 (c9 3) (c9 1)) b7)))) l8 (l9 4))) (e7 (k9 (a8 (i9 Q4 (i9 Q4 (c9 0) (c9 3)) (Q5 (a5u rfl) B.max_ PyProof.Rows.Boot.«max» (a7 (i9 Q3 (c9 0) b7) (a7 b7 c8))))))))
def b4x:EvS:=(f7 (sEx (eCl N3 (a6 (a4 1) (a6 (eC (.int 30)) b8)))) (f7 (i5 2 (eCl S6 (a6 (a4 0) b8))) (f7 (i5 3 (eCl (z7 rp) (a6 (e2 Y7 (a4 1) (eCl z0 (a6 (a4 2) b8))) (a6 (eC (.int 0)) b8)))) (f7 (sIf (tB (e2 dGt (eCl N4 (a6 (eCl z0 (a6 (a4 2) b8)) (a6 (eCl E7 (a6 (a4 0) b8)) (a6 (a4 3) b8)))) (eC (.int 3000)))) sNo E3) (f7 (i5 4 (eCl B6 (a6 (a4 2) (a6 (a4 3) b8)))) (v5 (m6 (iL (a4 4)) [0] pt1 tT (a0F (a6 (a4 0) (a6 (e2 dIx (eCl D6 (a6 (a4 1) (a6 (eC (.int 0)) (a6 (a4 0) b8)))) (eC (.int 0))) b8))))))))))
def a3C:=fnD [.f,.f] 3 b4x
abbrev b4y(B:Bk P w K mg base)(k:Nat):=HB B "book" k ["machine","most"] (spD K 2 a3C .f)
def b7n(B:Bk P w K mg base)(ko:a5R B 6)(jU:a2h B 6)(iq:a1C B 6)(je:a3A B 6)(iW:a0e B 6)(jX:a2j B 6):b4y B 7:=
 m7 B.d31 λ_ _ F=>fnF F ["machine","most","small","extra","probes"] λsc _ _ _ _ _ _ hr=>by exact a9 (b6f (m4 jU hr (a7 (b9 1) (a7 (a9r B.MOST_STATES_) c8)))) (a9 (f6 2 sc.nd (a8 (m4 ko hr (a7 (b9 0) c8)))) (a9 (f6 3 sc.nd (a8 (Q5 (a5u rfl) B.max_ PyProof.Rows.Boot.«max» (a7 (i9 Q3 (b9 1) (u5 B.len_ (q8 2))) (a7 b7 c8))))) (a9 (M9 (r9 a4v (m4 jX hr (a7 (u5 B.len_ (q8 2)) (a7 (m4 iq hr (a7 (b9 0) c8)) (a7 (c9 3) c8)))) (a9r B.MOST_IN_BOOK_)) (e7 (b8a)) C2) (a9 (f6 4 sc.nd (a8 (m4 iW hr (a7 (q8 2) (a7 (c9 3) c8))))) (e7 (PSX.weak (k9 (a8 (PX.frz (u8 rfl (tn:=["probe"]) (ys:=["machine"]) (k8 (PX.newf (b9 4))) rfl (λ_ _ _ _ _=>o6 (i:=0) c2D rfl (eD rfl) (.inr rfl)) v9 (.inr rfl) a2R rfl (λ_ _ _ _ _=>t8) (λ_ _ _ _ _=>(b9e (j9 (PX.newf (b9 0)) (j9 (b3g (j:=0) (m4 je hr (a7 (b9 1) (a7 b7 (a7 (b9 0) c8))))) l6)))))))) (V8 4) l8))))))
def b_law:EvS:=(f7 (i5 1 (eCl m_law_machine (a6 (a4 0) b8))) (f7 (i5 2 (eCl S6 (a6 (m6 (iL (a4 1)) [] pt1 tT (eI (G8 (a4 0)))) b8))) (f7 (i5 3 (eCl (z7 rp) (a6 (eC (.int 1)) (a6 (e2 G6 (eCl z0 (a6 (a4 2) b8)) (eCl m_law_extra (a6 (a4 0) (a6 (a4 1) b8)))) b8)))) (f7 (i5 4 (eCl m_law_due (a6 (a4 2) (a6 (a4 3) (a6 (eCl S7 (a6 (a4 2) b8)) (a6 (eCl Y4 (a6 (a4 2) b8)) b8)))))) (f7 (i5 5 (m6 (iL (eCl a3C (a6 (m6 (iL (a4 1)) [] pt1 tT (eI (G8 (a4 0)))) (a6 (a4 3) b8)))) [] pt2 tT (O6 (a4 0)))) (f7 (sIf (b0K (tB (e2 dNe (eCl z0 (a6 (a4 5) b8)) (eCl a3b (a6 (a4 4) b8)))) (tB (e2 dNe (W4 (a4 5)) (eCl a3b (a6 (a4 4) b8))))) (v5 (eC (.bool xn))) E3) (f7 (y6 (iI (iL (a4 5))) (p6 6) (sIf (tB (e2 (dIn rp rp) (a4 6) (a4 4))) (v5 (eC (.bool xn))) E3)) (v5 (eC (.bool rp))))))))))
def m_law:=fnD [.f] 6 b_law
def ok_law(B:Bk P w K mg base)(iV:Z8 B 7)(ko:a5R B 7)(lP:a4P B 7)(lI:a8N B 7)(kl:a5S B 7)(jV:a2f B 7)(pC:b4y B 7)(F:Fun K "law" "law" (top 48) f fd):FnOk P w K mg base CX0 8 f fd ["_law_script"] (spD K 1 m_law .i):=
 fnF F ["_law_script","_law_machine_here","_law_small","_law_most","_law_due_here","_law_found","_law_probe"] λsc _ _ _ _ _ _ hr=>by exact a9 (f6 1 sc.nd (a8 (m4 iV hr (a7 (b9 0) c8)))) (a9 (PSX.weak (f6 2 sc.nd (a8 (m4 ko hr (a7 (u8 rfl (tn:=["_law_row"]) (ys:=[]) (k8 (PX.newf (b9 1))) rfl (λ_ _ _ _ _=>o6 (i:=0) b8h rfl (eD rfl) (.inr rfl)) v9 (.inr rfl) a2R rfl (λ_ _ _ _ _=>t8) (λ_ _ _ _ _=>(MkL.i (a0H B.list_ (PX.newf (b9 0)))))) c8)))) (V8 1) l8) (a9 (f6 3 sc.nd (a8 (Q5 (a5u rfl) B.max_ PyProof.Rows.Boot.«max» (a7 b7 (a7 (i9 v8 (u5 B.len_ (q8 2)) (m4 jV hr (a7 (b9 0) (a7 (b9 1) c8)))) c8))))) (a9 (f6 4 sc.nd (a8 (m4 lP hr (a7 (q8 2) (a7 (c9 3) (a7 (b3C lI hr (a7 (q8 2) c8) (hfl:=(l7 D0))) (a7 (a2x kl hr (a7 (q8 2) c8) (hfl:=(l7 D0))) c8))))))) (a9 (a7Y 5 sc.nd rfl (tn:=["_law_probe","_law_answers"]) (ys:=[]) (k8 (by exact a6X pC hr (a3n (PX.frz (u8 rfl (tn:=["_law_row"]) (ys:=[]) (k8 (PX.newf (b9 1))) rfl (λ_ _ _ _ _=>o6 (i:=0) b8h rfl (eD rfl) (.inr rfl)) v9 (.inr rfl) a2R rfl (λ_ _ _ _ _=>t8) (λ_ _ _ _ _=>(MkL.i (a0H B.list_ (PX.newf (b9 0))))))) (a3n (PX.newi (c9 3)) (a9H))) (hfl:=(l7 (l7 D0))))) rfl (λ_ _ _ _ _=>a2E rfl (A8 (o6 (i:=0) b8i rfl (eD rfl) (.inr rfl)) (A8 (o6 (i:=1) b8i rfl (eD rfl) (.inr rfl)) a0y))) a9x (.inr rfl) a2R rfl (λ_ _ _ _ _=>t8) (λ_ _ _ _ _=>(a0I B.tuple_ (b9 0)))) (a9 (M9 (PWX.pt (a7Q (r9 b4k (u5 B.len_ (N0 5)) (a5B B.len_ (q8 4))) (a5p (r9 b4k (a8A rfl (by exact hr.units) B.set_ B.len_ (N0 5)) (a5B B.len_ (q8 4)))))) (e7 (k9 (a8 a2O))) C2) (a9 (PSX.weak (A6 rfl bJ (PIX.i (k8 (PX.newf (b9 5)))) (z9 6 sc.nd) Q6 a8a (PSsX.weak (e7 (M9 (b3m (a4C (by exact hr.units)) (c9 6) (q8 4)) (e7 (k9 (a8 a2O))) C2)) l8 (l9 6))) (V8 5) l8) (e7 (k9 (a8 a2O)))))))))
end Prog
local macro_rules | `(tactic| walk_at "ev")=>`(tactic| simp -implicitDefEqProofs (disch:=first | omega | assumption | decide) only [VS.v_var,VS.v_c,VS.v_1,VS.v_2,VS.c3o,VS.b9D,VS.b8b,VS.c3p,VS.c3q,VS.c1F,VS.c1G,VS.c1H,VS.v_and,VS.v_or,VS.v_not,VS.c3r,VS.b8c,VS.c1I,VS.Z5,VS.b3e,VS.a9z,VS.c3s,VS.b9E,VS.c1J,VS.a6A,VS.b9F,VS.c3k,VS.b9l,VS.c3l,VS.b6k,VS.c3m,VS.c3n,VS.b9m,VS.b9n,VS.b9o,VS.c1A,VS.c1B,VS.b9p,VS.b9q,VS.c1C,VS.c1D,VS.b9r,VS.b9s,VS.b9t,VS.b9u,VS.b9v,VS.a5y,VS.b9w,VS.b9x,VS.b9y,VS.b3d,VS.b9z,VS.c1E,VS.b6l,VS.b9A,VS.b9B,VS.a9y,VS.b9C,VS.v_add,VS.v_sub,VS.v_lt,VS.c3t,VS.c3u,VS.c3v,VS.c1K,VS.c1L,VS.b9G,VS.b9H,VS.c1M,VS.c1N,VS.c1O,VS.c1P,VS.c1Q,VS.c1R,VS.v_mod,VS.v_div,VS.c3H,VS.c2g,VS.c2h,VS.trB,VS.c2i,VS.c0q,VS.b4l,VS.b7f,VS.b4m,VS.b4n,VS.b7g,VS.b1J,VS.a8B,VS.a8C,VS.a8D,VS.b1K,VS.b1L,VS.a8E,VS.a8F,VS.a7e,VS.a7f,VS.a7g,VS.a8G,VS.a8H,VS.a7h,VS.isList_list,VS.isList_int,VS.a7i,VS.isList_bool,VS.a8I,VS.isList_str,VS.isList_dict,VS.a7j,VS.isTuple_list,VS.isTuple_int,VS.a4J,VS.a9Q,VS.a9R,VS.c2j,VS.c2k,VS.a8J,VS.c3Q,VS.a0r,VS.c0r,VS.c0s,VS.c0t,VS.c2m,VS.c2n,VS.c3R,VS.at0,VS.at1,VS.c2s,VS.c2t,VS.c0w,VS.b7j,VS.c2u,VS.b7k,mZ,eZ,nN,ij,jG,hJ,bP,bT,aX,er,rV,nv,gy,Bool.false_and,Bool.and_false,VS.c3I,VS.c3J,VS.c3K,VS.c3L,VS.c3M,VS.c3N,VS.c3O,VS.c3P,decide_true,decide_false,af,aB,cX])
namespace Prog
open L2 VS
def P9{ns:List Int}{j:Int}(a:0<=j)(b:j<ns.length):L2.atI (ns.map aP) j=cz (.int (ns.getD j.toNat 0)):=by
 rw[a1m a (by rw[af];exact b),dE];rw[ah,ab (by lia)];rfl
end Prog
local macro_rules | `(tactic| walk_at "evm")=>`(tactic| first | (walk_at "ev";repeat (simp -implicitDefEqProofs (disch:=first | omega | assumption | decide) only [VS.a1l,VS.a5z];try walk_at "ev")) | (simp -implicitDefEqProofs (disch:=first | omega | assumption | decide) only [VS.a1l,VS.a5z];repeat (first | walk_at "ev" | simp -implicitDefEqProofs (disch:=first | omega | assumption | decide) only [VS.a1l,VS.a5z])))
namespace Prog
open L2 VS
def a7o(ns:List Int)(k:Int):Int:=((if 0<ns.length then ns.getD (k % (ns.length:Int)).toNat 0 else 3) % 2147483629+7919*k+1)*48271 % 2147483647
def L9(ns:List Int)(k:Int):Int:=a7o ns k*(a7o ns k % 65521+k+2) % 2147483629
def c0z(ns:List Int)(k:Int):0<=a7o ns k/\a7o ns k<2147483647:=⟨fK _ (by decide),eG _ (by decide)⟩
def b7o(ns:List Int)(k:Int):0<=L9 ns k:=fK _ (by decide)
def atI_nums{ns:List Int}{j:Int}(a:0<=j)(b:j<ns.length):L2.atI (ns.map aP) j=cz (.int (ns.getD j.toNat 0)):=by
 rw[a1m a (by rw[af];exact b),dE];rw[ah,ab (by lia)];rfl
def a3D(ns:List Int)(k:Int)(h0:0<=k)(h1:k<=1000):m_law_mixed [.list (ns.map .int),.int k]=cz (.int (L9 ns k)):=by
 unfold m_law_mixed;rw[A7 (by simp[VS.argsOk,imm])];unfold b_law_mixed;walk_at "evm";have hr:=c0z ns k;by_cases c:0<ns.length
 ·rw[aV (by lia:(0:Int)<ns.length)];walk_at "evm";rw[atI_nums (fK _ (by lia)) (eG _ (by lia))];walk_at "evm";have e:a7o ns k=(ns.getD (k % (ns.length:Int)).toNat 0 % 2147483629+7919*k+1)*48271 % 2147483647:=by unfold a7o;rw[aE c]
  rw[<-e]
  try walk_at "evm"
  rfl
 ·rw[aZ (by lia:¬ (0:Int)<ns.length)];walk_at "evm";have e:a7o ns k=(3 % 2147483629+7919*k+1)*48271 % 2147483647:=by unfold a7o;rw[aM c]
  rw[<-e]
  try walk_at "evm"
  rfl
end Prog
namespace VS
open L2
abbrev Ky:=List (Int×Int)
def snoc_ind{P:List α->Prop}(h0:P [])(h1:∀l x,P l->P (l++[x]))(l:List α):P l:=by
 have h:∀r:List α,P r.reverse:=by
  intro r
  induction r with
  |nil=>exact h0
  |cons x r ih=>rw[gF];exact h1 _ _ ih
 have:=h l.reverse
 rwa[xQ]at this
def a4g(seen:List Ky)(x:Ky):List Ky:=if x∈seen then seen else seen++[x]
def ded(ks:List Ky):List Ky:=ks.foldl a4g []
def G5(ks:List Ky)(x:Ky):ded (ks++[x])=a4g (ded ks) x:=by unfold ded;rw[fP];rfl
def F6(h:x∈s):a4g s x=s:=aE h
def D7(h:x∉s):a4g s x=s++[x]:=aM h
def b4z:y∈a4g s x↔y∈s\/y=x:=by
 by_cases h:x∈s
 ·rw[F6 h];exact⟨eD,λz=>z.elim id λe=>e▸h⟩
 ·rw[D7 h];simp
def S9:y∈ded ks↔y∈ks:=by
 induction ks using snoc_ind with
 |h0=>simp[ded]
 |h1 l x ih=>rw[G5,b4z,ih];simp
def a9W(ks:List Ky):(ded ks).length<=ks.length:=by
 induction ks using snoc_ind with
 |h0=>simp[ded]
 |h1 l x ih=>
  rw[G5,av,bZ];by_cases h:x∈ded l
  ·rw[F6 h];lia
  ·rw[D7 h,av,bZ];lia
def b4A(h:y∈s):(a4g s x).idxOf y=s.idxOf y:=by
 by_cases c:x∈s
 ·rw[F6 c]
 ·rw[D7 c,kG,aE h]
def b7p{s:List Ky}{x y:Ky}(hx:x∈s)(h:s.idxOf x=s.idxOf y):x=y:=by
 have h1:=b_.mpr hx;have e1:s[s.idxOf x]'h1=x:=dY h1;have h2:s.idxOf y<s.length:=by rw[<-h];exact h1
 have e2:s[s.idxOf y]'h2=y:=dY h2;rw[<-e1,<-e2]
 congr 1
def a9X(h:ks≠[]):∃x∈ks,(ded ks).idxOf x+1=(ded ks).length:=by
 induction ks using snoc_ind with
 |h0=>exact absurd rfl h
 |h1 l x ih=>
  rw[G5];by_cases c:x∈ded l
  ·have hl:l≠[]:=λe=>by subst e;simp[ded]at c
   obtain⟨y,hy,e⟩:=ih hl;exact⟨y,ak _ hy,by rw[F6 c];exact e⟩
  ·refine⟨x,by simp,?_⟩;rw[D7 c,kG,aM c,av];simp
def a1D(ks:List Ky):List Int:=ks.map λx=>(((ded ks).idxOf x:Nat):Int)
def a7p(ks:List Ky):(a1D ks).length=ks.length:=af ..
def b1P{α:Type}(f g:α->Ky)(ps:List α):(∀p∈ps,∀q∈ps,g p=g q->f p=f q)->(ded (ps.map f)).length<=(ded (ps.map g)).length/\((ded (ps.map g)).length<=(ded (ps.map f)).length->∀p∈ps,∀q∈ps,f p=f q->g p=g q):=by
 induction ps using snoc_ind with
 |h0=>exact λ_=>⟨az _,λ_ p hp=>nomatch hp⟩
 |h1 l x ih=>
  intro h;obtain⟨i1,i2⟩:=ih λp hp q hq=>h p (ak _ hp) q (ak _ hq)
  rw[aT,aT,cm,cm,G5,G5];have hx:x∈l++[x]:=by simp
  by_cases cg:g x∈ded (l.map g)
  ·obtain⟨q,hq,eq⟩:=aG.mp (S9.mp cg);have BW:f q=f x:=h q (ak _ hq) x hx eq;have cf:f x∈ded (l.map f):=S9.mpr (aG.mpr ⟨q,hq,BW⟩);rw[F6 cg,F6 cf];refine⟨i1,λhle p hp r hr e=>?_⟩;have key:∀p∈l,f p=f x->g p=g x:=λp hp e=>(i2 hle p hp q hq (e.trans BW.symm)).trans eq
   rcases ay.mp hp with z|z<;>rcases ay.mp hr with y|y
   ·exact i2 hle p z r y e
   ·cases aq.mp y;exact key p z e
   ·cases aq.mp z;exact (key r y e.symm).symm
   ·cases aq.mp z;cases aq.mp y;rfl
  ·by_cases cf:f x∈ded (l.map f)
   ·rw[F6 cf,D7 cg,av,bZ];exact⟨by lia,λhle=>by lia⟩
   ·rw[D7 cf,D7 cg,av,av,bZ,bZ];refine⟨by lia,λhle p hp r hr e=>?_⟩;have no:∀p∈l,f p≠f x:=λp hp e=>cf (S9.mpr (aG.mpr ⟨p,hp,e⟩))
    rcases ay.mp hp with z|z<;>rcases ay.mp hr with y|y
    ·exact i2 (by lia) p z r y e
    ·cases aq.mp y;exact absurd e (no p z)
    ·cases aq.mp z;exact absurd e.symm (no r y)
    ·cases aq.mp z;cases aq.mp y;rfl
def rn(r:Ky)(ls:List Int):Ky:=r.map λp=>(p.1,ls.getD p.2.toNat 0)
def a1E(r:Ky)(ls:List Int):(rn r ls).length=r.length:=af ..
def lvl(m:g9):Nat->List Int
 |0=>m.map λ_=>0
 |d+1=>a1D (m.map λr=>rn r (lvl m d))
def kf(m:g9):Nat->Ky->Ky
 |0,_=>[]
 |d+1,r=>rn r (lvl m d)
def cls(m:g9)(d:Nat):Nat:=(ded (m.map (kf m d))).length
def lv(m:g9)(d:Nat)(s:Int):Int:=(lvl m d).getD s.toNat 0
def T0(m:g9):∀d,(lvl m d).length=m.length
 |0=>af ..
 |d+1=>by unfold lvl;rw[a7p,af]
def x8(m:g9)(s:Int):lv m 0 s=0:=by
 unfold lv lvl;rw[ah,aQ];cases m[s.toNat]?<;>rfl
def a9Y{m:g9}{d:Nat}{s:Int}(h0:0<=s)(h1:s<m.length):lv m (d+1) s=(((ded (m.map (kf m (d+1)))).idxOf (rn (rowAt m s) (lvl m d)):Nat):Int):=by
 have h2:s.toNat<m.length:=by lia
 show (a1D (m.map λr=>rn r (lvl m d))).getD s.toNat 0=_;unfold a1D rowAt;rw[ah,aQ,aQ,ah,ab h2];rfl
def a5V{m:g9}{d:Nat}{s t:Int}(h0:0<=s)(h1:s<m.length)(h2:0<=t)(h3:t<m.length):lv m (d+1) s=lv m (d+1) t↔rn (rowAt m s) (lvl m d)=rn (rowAt m t) (lvl m d):=by
 rw[a9Y h0 h1,a9Y h2 h3];refine⟨λh=>?_,λh=>by rw[h]⟩;exact b7p (S9.mpr (aG.mpr ⟨_,E6 h0 h1,rfl⟩)) (Int.ofNat_inj.mp h)
def c2E{r r':Ky}{ls:List Int}(hl:r.length=r'.length):rn r ls=rn r' ls↔∀a:Nat,a<r.length->(r.getD a (0,0)).1=(r'.getD a (0,0)).1/\ls.getD (r.getD a (0,0)).2.toNat 0=ls.getD (r'.getD a (0,0)).2.toNat 0:=by
 unfold rn
 constructor
 ·intro h a ha;have e:(r.map λp=>(p.1,ls.getD p.2.toNat 0))[a]?=(r'.map λp=>(p.1,ls.getD p.2.toNat 0))[a]?:=by rw[h]
  rw[aQ,aQ,ab ha,ab (by lia)]at e;rw[ah,ah,ab ha,ab (by lia)];simp only[qG,oE,Prod.mk.injEq]at e;exact e
 ·intro h;refine iX (by rw[af,af,hl]) λa h1 h2=>?_
  rw[af]at h1 h2;have:=h a h1;rw[ah,ah,ab h1,ab h2]at this;rw[dE,dE];exact xN this.1 this.2
def J6{m:g9}{k d:Nat}(w:WF m k){s t:Int}(h0:0<=s)(h1:s<m.length)(h2:0<=t)(h3:t<m.length) :
  lv m (d+1) s=lv m (d+1) t↔∀a:Int,0<=a->a<k->(stp m s a).1=(stp m t a).1/\lv m d (stp m s a).2=lv m d (stp m t a).2:=by
 rw[a5V h0 h1 h2 h3,c2E (by rw[w.row h0 h1,w.row h2 h3]),w.row h0 h1];refine⟨λh a a0 a1=>h a.toNat (by lia),λh a ha=>?_⟩;have:=h a (by lia) (by lia);unfold stp lv at this
 rwa[bH]at this
theorem a5W{m:g9}{k:Nat}(w:WF m k):∀(d:Nat) {s t:Int},0<=s->s<m.length->0<=t->t<m.length->lv m (d+1) s=lv m (d+1) t->lv m d s=lv m d t
 |0,s,t,_,_,_,_,_=>by rw[x8,x8]
 |d+1,s,t,h0,h1,h2,h3,h=>by
  rw[J6 w h0 h1 h2 h3]at h ⊢;intro a a0 a1;have ha:=h a a0 a1;have n1:=w.nx h0 h1 a0 a1;have n2:=w.nx h2 h3 a0 a1;exact⟨ha.1,a5W w d n1.1 n1.2 n2.1 n2.2 ha.2⟩
def b4B{m:g9}{r:Ky}(h:r∈m):∃s:Int,0<=s/\s<m.length/\rowAt m s=r:=by
 obtain⟨i,hi,e⟩:=List.getElem_of_mem h;refine⟨i,by lia,by lia,?_⟩;unfold rowAt;rw[bH,ah,ab hi];exact e
def b8j{m:g9}{d:Nat}{s t:Int}(h0:0<=s)(h1:s<m.length)(h2:0<=t)(h3:t<m.length):kf m d (rowAt m s)=kf m d (rowAt m t)↔lv m d s=lv m d t:=by
 cases d with
 |zero=>rw[x8,x8];exact⟨λ_=>rfl,λ_=>rfl⟩
 |succ d=>rw[a5V h0 h1 h2 h3];rfl
def b4C{m:g9}{k:Nat}(w:WF m k)(d:Nat):cls m d<=cls m (d+1)/\(cls m (d+1)<=cls m d->∀s t:Int,0<=s->s<m.length->0<=t->t<m.length->lv m d s=lv m d t->lv m (d+1) s=lv m (d+1) t):=by
 obtain⟨c1,c2⟩:=b1P (kf m d) (kf m (d+1)) m λp hp q hq e=>by
  obtain⟨s,h0,h1,rfl⟩:=b4B hp;obtain⟨t,h2,h3,rfl⟩:=b4B hq;rw[b8j h0 h1 h2 h3]at e ⊢;exact a5W w d h0 h1 h2 h3 e
 refine⟨c1,λhc s t h0 h1 h2 h3 e=>?_⟩;rw[<-b8j h0 h1 h2 h3]at e ⊢;exact c2 hc _ (E6 h0 h1) _ (E6 h2 h3) e
def a9Z(m:g9)(d:Nat):cls m d<=m.length:=by
 have:=a9W (m.map (kf m d));rw[af]at this;exact this
def a1c(w:WF m k)(d:Nat):1<=cls m d:=by
 have hm:m≠[]:=λe=>by have:=w.pos;rw[e]at this;exact absurd this (by decide)
 obtain⟨x,_,e⟩:=a9X (ks:=m.map (kf m d)) (λe=>hm (yH.mp e));unfold cls;lia
def fp:Ky->Ky->Nat
 |x::xs,y::ys=>if x=y then fp xs ys+1 else 0
 |_,_=>0
theorem a5X:∀{r r':Ky},r.length=r'.length->r≠r'->fp r r'<r.length/\r.getD (fp r r') (0,0)≠r'.getD (fp r r') (0,0)/\∀i<fp r r',r.getD i (0,0)=r'.getD i (0,0)
 |[],[],_,h=>absurd rfl h
 |[],_::_,h,_=>by simp at h
 |_::_,[],h,_=>by simp at h
 |x::xs,y::ys,hl,h=>by
  by_cases c:x=y
  ·subst c;have ih:=a5X (r:=xs) (r':=ys) (by simpa using hl) (λe=>h (by rw[e]));have e:fp (x::xs) (x::ys)=fp xs ys+1:=aE rfl;rw[e];refine⟨by rw[aS];lia,?_,λi hi=>?_⟩
   ·rw[eZ,eZ];exact ih.2.1
   ·cases i with
    |zero=>rfl
    |succ i=>rw[eZ,eZ];exact ih.2.2 i (by lia)
  ·have e:fp (x::xs) (y::ys)=0:=aM c;rw[e];exact⟨by rw[aS];lia,by rw[mZ,mZ];exact c,λi hi=>absurd hi (by lia)⟩
def fa(m:g9)(d:Nat)(s t:Int):Int:=(fp (rn (rowAt m s) (lvl m d)) (rn (rowAt m t) (lvl m d)):Nat)
def a5Y{r:Ky}(h:i<r.length):(rn r ls).getD i (0,0)=((r.getD i (0,0)).1,ls.getD (r.getD i (0,0)).2.toNat 0):=by
 unfold rn;rw[ah,aQ,ab h,ah,ab h];rfl
def b0a{m:g9}{k d:Nat}(w:WF m k){s t:Int}(h0:0<=s)(h1:s<m.length)(h2:0<=t)(h3:t<m.length)(h:lv m (d+1) s≠lv m (d+1) t) :
  (0<=fa m d s t/\fa m d s t<k)/\((stp m s (fa m d s t)).1≠(stp m t (fa m d s t)).1\/lv m d (stp m s (fa m d s t)).2≠lv m d (stp m t (fa m d s t)).2)/\
  ∀a:Int,0<=a->a<fa m d s t->(stp m s a).1=(stp m t a).1/\lv m d (stp m s a).2=lv m d (stp m t a).2:=by
 have l1:=w.row h0 h1;have l2:=w.row h2 h3;rw[ne_eq,a5V h0 h1 h2 h3]at h;obtain⟨f1,f2,f3⟩:=a5X (r:=rn (rowAt m s) (lvl m d)) (r':=rn (rowAt m t) (lvl m d)) (by rw[a1E,a1E,l1,l2]) h;rw[a1E,l1]at f1;refine⟨⟨by unfold fa;lia,by unfold fa;lia⟩,?_,λa a0 a1=>?_⟩
 ·rw[a5Y (by lia),a5Y (by lia)]at f2;unfold stp lv fa;rw[bH];by_cases c:((rowAt m s).getD (fp (rn (rowAt m s) (lvl m d)) (rn (rowAt m t) (lvl m d))) (0,0)).1=((rowAt m t).getD (fp (rn (rowAt m s) (lvl m d)) (rn (rowAt m t) (lvl m d))) (0,0)).1
  ·exact .inr λe=>f2 (xN c e)
  ·exact .inl c
 ·unfold fa at a1;have:=f3 a.toNat (by lia);rw[a5Y (by lia),a5Y (by lia)]at this;unfold stp lv;have e1:=dG Prod.fst this;have e2:=dG Prod.snd this;exact⟨e1,e2⟩
def fu(m:g9):Nat->Int->Int->List Int
 |0,_,_=>[]
 |d+1,s,t=>fa m d s t::fu m d (stp m s (fa m d s t)).2 (stp m t (fa m d s t)).2
theorem b4D(m:g9):∀(d:Nat) (s t:Int),(fu m d s t).length=d
 |0,_,_=>rfl
 |d+1,s,t=>by show (fu m d _ _).length+1=_;rw[b4D m d]
theorem a3E(hp:∀d,p (d+1)=rp->p d=rp):∀N:Nat,∃c,(aw N).countP p=c/\c<=N/\(∀d<c,p d=rp)/\∀d,c<=d->d<N->p d=xn
 |0=>⟨0,rfl,az _,λd h=>absurd h (by lia),λd _ h=>absurd h (by lia)⟩
 |N+1=>by
  obtain⟨c,e,hc,h1,h2⟩:=a3E hp N;rw[ic,List.countP_append,e];by_cases cN:p N=rp
  ·have EH:c=N:=by
    rcases bK c N with z|z
    ·have down:∀j i,i+j=N->p i=rp:=by
      intro j
      induction j with
      |zero=>intro i e;rw[show i=N by lia];exact cN
      |succ j ih=>intro i e;exact hp i (ih (i+1) (by lia))
     have:=h2 c (az _) z;rw[down (N-c) c (by lia)]at this;cases this
    ·lia
   subst EH;refine⟨c+1,by simp[cN],az _,λd hd=>?_,λd hd jO=>absurd jO (by lia)⟩;rcases bK d c with z|z
   ·exact h1 d z
   ·rw[show d=c by lia];exact cN
  ·refine⟨c,by simp[cN],by lia,h1,λd hd jO=>?_⟩;rcases bK d N with z|z
   ·exact h2 d hd z
   ·rw[show d=N by lia];simpa using cN
def b4E:a3b [.dict kvs]=cz (.int kvs.length):=rfl
def a2C(h:a U=cz (.list ds))(hi:c7 ds=rp):O6 a U=cz (.tuple ds):=by
 unfold O6;rw[h];exact b3f (by simp only[imm];exact hi)
def c0A(hk:fk U=cz k)(he:fe U=cz e)(hd:U.getD i .none=.dict kvs)(hK:n6 kt k=rp)(hl:kvs.length<1000000)(hs:scal e=rp)(hj:U.getD j .none=.list ds)(iw:i≠j)(sv:ds.length<1000000) :
  a6H j (U2 i kt fk fe) U=cz (.nx ((U.set i (.dict (C4 kvs k e))).set j (.list (ds++[(w6 kvs k).getD e])))):=by
 have hx:U2 i kt fk fe U=cz ((w6 kvs k).getD e,U.set i (.dict (C4 kvs k e))):=by
  unfold U2;rw[hk];show (fe U).bind _=_;rw[he];show (match U.getD i .none with|.dict kvs=>_|_=>_)=_;rw[hd];show (if _ then _ else _)=_;rw[aE (by rw[hK,aV hl,hs];rfl)]
 have Ek:(U.set i (.dict (C4 kvs k e))).getD j .none=.list ds:=by
  rw[<-hj,ah,ah,bS iw]
 unfold a6H;rw[hx];show (match (U.set i (.dict (C4 kvs k e))).getD j .none with|.list ds=>_|_=>_)=_;rw[Ek];show (if _ then _ else _)=_;rw[aE sv]
theorem Y6{I:Nat->List D->Prop}{Q:List D->Prop}(B:Nat)(step:∀j U,I j U->j<=B/\((c U=cz xn/\Q U)\/(c U=cz rp/\∃U',g U=cz (.nx U')/\I (j+1) U'))):∀n j U,I j U->B<n+j->∃U',whL c g n U=cz (.nx U')/\Q U'
 |0,j,U,h,hn=>absurd (step j U h).1 (by lia)
 |n+1,j,U,h,hn=>by
  rcases (step j U h).2 with⟨e,q⟩|⟨e,U',e2,h2⟩
  ·refine⟨U,?_,q⟩;show (c U).bind _=_;rw[e];rfl
  ·obtain⟨U2,e3,q⟩:=Y6 B step n (j+1) U' h2 (by lia);refine⟨U2,?_,q⟩;show (c U).bind _=_;rw[e];show (g U).bind _=_;rw[e2];exact e3
def b7q:sWh (λ_=>n) c g U=whL c g n U:=rfl
def c4c(h:a U=cz (.list ds)):iRv a U=cz ds.reverse:=by
 unfold iRv;rw[h];rfl
def b4F(p q:Int×Int):aR (stD p) (stD q)=decide (p=q):=by
 unfold stD;simp only[aR,cy,a2B];rcases p with⟨a,b⟩
 rcases q with⟨c,d⟩
 by_cases h1:a=c<;>by_cases h2:b=d<;>simp[h1,h2]
theorem b0b:∀xs ys:Ky,cy (xs.map stD) (ys.map stD)=decide (xs=ys)
 |[],[]=>by simp[cy]
 |[],_::_=>by simp[cy]
 |_::_,[]=>by simp[cy]
 |x::xs,y::ys=>by
  simp only[aB,cy,b4F,b0b xs ys,gu];by_cases h1:x=y<;>by_cases h2:xs=ys<;>simp[h1,h2]
def c0B:dEq (stD p) (stD q)=cz (.bool (decide (p=q))):=by
 rw[b8g (b4r p) (b4r q) (cC (a7l p) (by decide)),b4F]
def Q0(x:Ky):D:=.tuple (x.map stD)
def a7q(x y:Ky):aR (Q0 x) (Q0 y)=decide (x=y):=by
 unfold Q0;simp only[aR];exact b0b x y
theorem a3F:∀x:Ky,n9 (x.map stD)=rp
 |[]=>rfl
 |p::x=>by
  show (A1 (stD p)&&n9 (x.map stD))=rp;rw[a3F x];rfl
def b1Q(x:Ky):n6 rp (Q0 x)=rp:=by
 have h1:A1 (Q0 x)=rp:=a3F x;have h2:(Q0 x).depth<=7:=by
  unfold Q0;simp only[fI];have:=Y1 stD 1 a7l x;lia
 unfold n6;rw[h1,aV h2];rfl
def dz:List Ky->Nat->List (D×D)
 |[],_=>[]
 |x::xs,i=>(Q0 x,.int i)::dz xs (i+1)
theorem a8R:∀(s:List Ky) (i:Nat),(dz s i).length=s.length
 |[],_=>rfl
 |x::s,i=>by show (dz s (i+1)).length+1=_;rw[a8R s];rfl
theorem b0c:∀(s:List Ky) (x:Ky) (i:Nat),dz (s++[x]) i=dz s i++[(Q0 x,.int ((i+s.length:Nat):Int))]
 |[],x,i=>rfl
 |y::s,x,i=>by
  show (Q0 y,aP i)::dz (s++[x]) (i+1)=_;rw[b0c s x (i+1)];show _=(Q0 y,aP i)::(dz s (i+1)++_);rw[aS,gx,jM 1]
theorem b0d:∀(s:List Ky) (x:Ky) (i:Nat),D8 (dz s i) (Q0 x)=decide (x∈s)
 |[],x,i=>by simp[D8,dz]
 |y::s,x,i=>by
  have ih:=b0d s x (i+1);unfold D8 at ih ⊢;show (aR (Q0 y) (Q0 x)||(dz s (i+1)).any _)=_;rw[ih,a7q];by_cases h:y=x
  ·simp[h]
  ·have:¬ x=y:=λe=>h e.symm
   simp[h,this]
theorem b0e:∀(s:List Ky) (x:Ky) (i:Nat),w6 (dz s i) (Q0 x)=if x∈s then cz (.int ((i+s.idxOf x:Nat):Int)) else p4
 |[],x,i=>by simp[w6,dz]
 |y::s,x,i=>by
  have ih:=b0e s x (i+1);unfold w6 at ih ⊢;show (List.find? _ ((Q0 y,aP i)::dz s (i+1))).map _=_;rw[ma,a7q];by_cases h:y=x
  ·subst h;simp
  ·have h':¬ x=y:=λe=>h e.symm
   rw[aZ h];show rO _ (List.find? _ (dz s (i+1)))=_;rw[ih];have e:(y::s).idxOf x=s.idxOf x+1:=by
    rw[List.idxOf_cons,beq_false_of_ne h];rfl
   rw[e,gx,jM 1];by_cases c:x∈s
   ·rw[aE c,aE (ar _ c)]
   ·rw[aM c,aM (by simp[h',c])]
def b7r(s:List Ky)(x:Ky):C4 (dz s 0) (Q0 x) (.int (s.length:Nat))=dz (a4g s x) 0:=by
 unfold C4;rw[b0d];by_cases c:x∈s
 ·rw[aV c,aE rfl,F6 c]
 ·rw[aZ c,aM (by decide),D7 c,b0c,iz]
def b7s(s:List Ky)(x:Ky):(w6 (dz s 0) (Q0 x)).getD (.int (s.length:Nat))=.int (((a4g s x).idxOf x:Nat):Int):=by
 rw[b0e];by_cases c:x∈s
 ·rw[aE c,F6 c,iz];rfl
 ·rw[aM c,D7 c,kG,aM c];simp
theorem a1F:∀(r:List Int) (i:Int),O9 i r∈i::r/\∀x∈i::r,x<=O9 i r
 |[],i=>⟨by simp[O9],λx hx=>by simp at hx;rw[hx];exact xS _⟩
 |y::r,i=>by
  have e:O9 i (y::r)=O9 (if y>i then y else i) r:=rfl;rw[e];by_cases c:y>i
  ·rw[aE c];obtain⟨h1,h2⟩:=a1F r y;refine⟨ar _ h1,λx hx=>?_⟩;rcases aN.mp hx with z|z
   ·have:=h2 y (by simp);lia
   ·exact h2 x z
  ·rw[aM c];obtain⟨h1,h2⟩:=a1F r i;refine⟨?_,λx hx=>?_⟩
   ·rcases aN.mp h1 with z|z
    ·rw[z];simp
    ·exact ar _ (ar _ z)
   ·rcases aN.mp hx with z|z
    ·rw[z];exact h2 i (by simp)
    ·rcases aN.mp z with y'|y'
     ·have:=h2 i (by simp);lia
     ·exact h2 x (ar _ y')
def b4G{ns:List Int}(h1:n∈ns)(h2:∀x∈ns,x<=n):Z6 [.list (ns.map .int)]=cz (.int n):=by
 show (intsOf (ns.map aP)).bind _=_;rw[a0k];cases ns with
 |nil=>cases h1
 |cons i r=>
  obtain⟨g1,g2⟩:=a1F r i;have a:=h2 _ g1;have b:=g2 _ h1;show cz (aP (O9 i r))=_;rw[show O9 i r=n by lia]
def b7t(h:ks≠[]):Z6 [.list ((a1D ks).map .int)]=cz (.int ((ded ks).length-1)):=by
 obtain⟨x,hx,e⟩:=a9X h;refine b4G ?_ λy hy=>?_
 ·exact aG.mpr ⟨x,hx,by lia⟩
 ·obtain⟨z,hz,rfl⟩:=aG.mp hy;have:=b_.mpr (S9.mpr hz);lia
def b0f(w:WF m k):∀d,Z6 [.list ((lvl m d).map .int)]=cz (.int (cls m d-1))
 |0=>by
  have hm:m≠[]:=λe=>by have:=w.pos;rw[e]at this;exact absurd this (by decide)
  have hc:cls m 0=1:=by
   have h1:=a1c w 0;unfold cls at h1 ⊢;have:∀l:g9,(ded (l.map (kf m 0))).length<=1:=by
    intro l
    induction l using snoc_ind with
    |h0=>simp[ded]
    |h1 l x ih=>
     rw[aT,cm,G5];by_cases c:kf m 0 x∈ded (l.map (kf m 0))
     ·rw[F6 c];exact ih
     ·have:l=[]:=by
       cases l with
       |nil=>rfl
       |cons y l=>exact absurd (S9.mpr (aG.mpr ⟨y,by simp,rfl⟩)) c
      subst this;simp[a4g,ded]
   have:=this m;lia
  rw[hc];refine b4G ?_ λy hy=>?_
  ·cases m with
   |nil=>exact absurd rfl hm
   |cons r m=>exact aG.mpr ⟨r,by simp,rfl⟩
  ·obtain⟨z,_,rfl⟩:=aG.mp hy
   decide
 |d+1=>by
  have hm:m≠[]:=λe=>by have:=w.pos;rw[e]at this;exact absurd this (by decide)
  exact b7t (ks:=m.map λr=>rn r (lvl m d)) λe=>hm (yH.mp e)
def v_count{bs:List Bool}:a3d (.list (bs.map .bool)) (.bool rp)=cz (.int (bs.countP id)):=by
 have h1:bp (bs.map cL)=rp:=a5N _ (λx=>by simp only[eX]) bs;show (if (bp (bs.map cL)&&(cL rp).canLay0&&decide ((cL rp).depth<=450))=rp then cz (aP ((bs.map cL).countP λd=>aR d (.bool rp))) else p4)=_;rw[h1,aE (by simp[eX,fI])];rw[Ha]
 congr 3
 congr 1
 funext b
 cases b<;>rfl
def b4H{ns:List Int}:lIs (cz (.list (ns.map .int)))=cz (.list (ns.map .int)):=a9Q (l5 _ (λ_=>Q9) ns)
theorem a4S(f:α->D):∀{xs:List α},(∀x∈xs,∃bs,pt (enc x)=cz bs/\g (bs++cs)=cz (f x))->U1 pt tT g cs (xs.map enc)=cz (xs.map f)
 |[],_=>rfl
 |x::xs,h=>by
  obtain⟨bs,h1,h2⟩:=h x aK;have ih:=a4S f (xs:=xs) λe he=>h e (ar _ he)
  show (pt (enc x)).bind _=_;rw[h1];show (g (bs++cs)).bind _=_;rw[h2];show (U1 pt tT g cs (xs.map enc)).bind _=_;rw[ih];rfl
def J7{js:List Nat}{xs:List α}(f:α->D)(hf:fi U=cz (xs.map enc))(hl:xs.length<=1000000)(h:∀x∈xs,∃bs,pt (enc x)=cz bs/\g (bs++js.map λj=>U.getD j .none)=cz (f x)) :
  m6 fi js pt tT g U=cz (.list (xs.map f)):=by
 unfold m6;rw[hf];show (if (xs.map enc).length<=1000000 then _ else p4)=_;rw[aE (by rw[af];exact hl),a4S f h];rfl
theorem a2k:∀(ls:List Int) (k:Nat),E4 (ls.map .int) k=(aw ls.length).map λ(s:Nat)=>dt [.int ((k+s:Nat):Int),.int (ls.getD s 0)]
 |[],_=>rfl
 |n::ls,k=>by
  show dt [.int k,.int n]::E4 (ls.map .int) (k+1)=_;rw[a2k ls (k+1),aS,uU,aB,bC]
  congr 1;refine bW λs _=>?_
  show dt [.int ((k+1+s:Nat):Int),.int (ls.getD s 0)]=.tuple [.int ((k+(s+1):Nat):Int),.int ((n::ls).getD (s+1) 0)];rw[eZ,gx,jM 1]
def c0C(h:a U=cz (.list ds)):iEn a U=cz (E4 ds 0):=by
 unfold iEn;rw[h];rfl
def c2F(hk:fk U=cz k)(he:fe U=cz e)(hd:U.getD i .none=.dict kvs)(hK:n6 kt k=rp)(hl:kvs.length<1000000)(hs:scal e=rp) :
  b3q (U2 i kt fk fe) U=cz (.nx (U.set i (.dict (C4 kvs k e)))):=by
 have hx:U2 i kt fk fe U=cz ((w6 kvs k).getD e,U.set i (.dict (C4 kvs k e))):=by
  unfold U2;rw[hk];show (fe U).bind _=_;rw[he];show (match U.getD i .none with|.dict kvs=>_|_=>_)=_;rw[hd];show (if _ then _ else _)=_;rw[aE (by rw[hK,aV hl,hs];rfl)]
 unfold b3q;rw[hx];rfl
section
variable {β α:Type}[DecidableEq β]
def dd1(W:List (β×α))(c:β×α):List (β×α):=if c.1∈W.map (·.1) then W else W++[c]
def dd(W C:List (β×α)):List (β×α):=C.foldl dd1 W
variable {W C C':List (β×α)}{c:β×α}{t:β}
def N9(h:c.1∈W.map (·.1)):dd1 W c=W:=aE h
def F7(h:c.1∉W.map (·.1)):dd1 W c=W++[c]:=aM h
def b4I:dd W (C++C')=dd (dd W C) C':=by unfold dd;rw[fP]
def N5:dd W (C++[c])=dd1 (dd W C) c:=by rw[b4I];rfl
def a3G(W C:List (β×α)):∃E,dd W C=W++E:=by
 induction C using snoc_ind with
 |h0=>exact⟨[],(aX _).symm⟩
 |h1 C c ih=>
  obtain⟨E,e⟩:=ih;rw[N5];by_cases h:c.1∈(dd W C).map (·.1)
  ·rw[N9 h];exact⟨E,e⟩
  ·rw[F7 h,e];exact⟨E++[c],aH ..⟩
def a3H(h:(W.map (·.1)).Nodup)(C:List (β×α)):((dd W C).map (·.1)).Nodup:=by
 induction C using snoc_ind with
 |h0=>exact h
 |h1 C c ih=>
  rw[N5];by_cases h:c.1∈(dd W C).map (·.1)
  ·rw[N9 h];exact ih
  ·rw[F7 h,aT,bV];refine⟨ih,by simp,λx hx y hy e=>h ?_⟩;rw[cm,aq]at hy;rw[<-hy,<-e];exact hx
def W9(W C:List (β×α)):(dd W C).Sublist (W++C):=by
 induction C using snoc_ind with
 |h0=>rw[aX];exact iF _
 |h1 C c ih=>
  rw[N5,<-aH];by_cases h:c.1∈(dd W C).map (·.1)
  ·rw[N9 h];exact ih.trans (kQ _ _)
  ·rw[F7 h];exact ih.append (iF _)
def a8S(W C:List (β×α)):(dd W C).length<=W.length+C.length:=by
 have:=(W9 W C).length_le
 rwa[av]at this
def b4J{R:α->α->Prop}(hR:(W++C).Pairwise λa b=>R a.2 b.2):∀e∈W++C,∃v,(e.1,v)∈dd W C/\(v=e.2\/R v e.2):=by
 induction C using snoc_ind with
 |h0=>
  intro e he;rw[aX]at he;exact⟨e.2,he,.inl rfl⟩
 |h1 C c ih=>
  intro e he;rw[<-aH]at hR he;obtain⟨h1,h2,h3⟩:=du.mp hR;rw[N5];rcases ay.mp he with z|z
  ·obtain⟨v,hv,r⟩:=ih h1 e z;refine⟨v,?_,r⟩;by_cases h:c.1∈(dd W C).map (·.1)
   ·rw[N9 h];exact hv
   ·rw[F7 h];exact ak _ hv
  ·rw[aq.mp z];by_cases h:c.1∈(dd W C).map (·.1)
   ·rw[N9 h];obtain⟨x,hx,ex⟩:=aG.mp h;refine⟨x.2,by rw[<-ex];exact hx,.inr (h3 x ((W9 W C).subset hx) c (by simp))⟩
   ·rw[F7 h];exact⟨c.2,by simp,.inl rfl⟩
end
def nodup_range{n:Nat}:∀{l:List Int},l.Nodup->(∀x∈l,0<=x/\x<(n:Int))->l.length<=n:=by
 induction n with
 |zero=>
  intro l _ h;cases l with
  |nil=>exact az _
  |cons x l=>have:=h x (by simp);lia
 |succ n ih=>
  intro l hd h;have h1:=ih (l:=l.erase (n:Int)) (hd.erase _) λx hx=>by
   have h2:=(List.Nodup.mem_erase_iff hd).mp hx;have:=h x h2.2;have:=h2.1;lia
  have h2:=List.length_erase (a:=(n:Int)) (l:=l);by_cases c:(n:Int)∈l
  ·rw[aE c]at h2;lia
  ·rw[aM c]at h2;lia
def wl:List Int->List Int->Prop
 |a::p,b::q=>a<b\/(a=b/\wl p q)
 |_,_=>False
def bf(p q:List Int):Prop:=p.length<q.length\/(p.length=q.length/\wl p q)
theorem b4K:∀{p q:List Int} (x y:List Int),wl p q->wl (p++x) (q++y)
 |[],_,_,_,h=>h.elim
 |_::_,[],_,_,h=>h.elim
 |a::p,b::q,x,y,h=>by
  rcases h with h|⟨e,h⟩
  ·exact .inl h
  ·exact .inr ⟨e,b4K x y h⟩
theorem b0g:∀(p:List Int) {x y:List Int},wl x y->wl (p++x) (p++y)
 |[],_,_,h=>h
 |a::p,_,_,h=>.inr ⟨rfl,b0g p h⟩
def b0h(a b:Int)(h:bf p q):bf (p++[a]) (q++[b]):=by
 rcases h with h|⟨e,h⟩
 ·exact .inl (by simp;lia)
 ·exact .inr ⟨by simp[e],b4K _ _ h⟩
def b4L(h:a<b):bf (p++[a]) (p++[b]):=.inr ⟨by simp,b0g p (.inl h)⟩
abbrev M7:=List (Int×List Int)
def a4h(m:g9)(k:Nat)(e:Int×List Int):M7:=(aw k).map λ(a:Nat)=>((stp m e.1 a).2,e.2++[(a:Int)])
abbrev W0:M7:=[(0,[])]
abbrev Sor(W:M7):Prop:=W.Pairwise λa b=>bf a.2 b.2
def b4M(m:g9)(k:Nat)(e:Int×List Int):Sor (a4h m k e):=by
 unfold Sor a4h;rw[iB];exact lQ.imp λh=>b4L (by lia)
def b1R(m:g9)(k:Nat){V:M7}(h:Sor V):Sor (V.flatMap (a4h m k)):=by
 induction V with
 |nil=>exact iH
 |cons e V ih=>
  obtain⟨h1,h2⟩:=gg.mp h;rw[dr];refine du.mpr ⟨b4M m k e,ih h2,λx hx y hy=>?_⟩;obtain⟨f,hf,hy⟩:=cx.mp hy;obtain⟨a,_,rfl⟩:=aG.mp hx;obtain⟨b,_,rfl⟩:=aG.mp hy;exact b0h _ _ (h1 f hf)
def b1S(m:g9)(k:Nat){V:M7}(h:Sor V):Sor (W0++V.flatMap (a4h m k)):=by
 refine du.mpr ⟨dI ..,b1R m k h,λx hx y hy=>?_⟩;rw[aq.mp hx];obtain⟨f,hf,hy⟩:=cx.mp hy;obtain⟨b,_,rfl⟩:=aG.mp hy;exact .inl (by simp)
structure Met (m:g9) (k:Nat) (dn W:M7):Prop where
 eq:W=dd W0 (dn.flatMap (a4h m k))
 pre:∃nw,W=dn++nw
 sor:Sor W
 ql:∀e∈W,e.2.length<=dn.length
structure AllMet (m:g9) (k:Nat) (W:M7):Prop where
 eq:W=dd W0 (W.flatMap (a4h m k))
 sor:Sor W
 range:∀e∈W,0<=e.1/\e.1<(m.length:Int)
 ql:∀e∈W,e.2.length<=W.length
section
variable {m:g9}{k:Nat}{W:M7}
def AllMet.nodup(h:AllMet m k W):(W.map (·.1)).Nodup:=by rw[h.eq];exact a3H (by simp) _
def AllMet.len(h:AllMet m k W):W.length<=m.length:=by
 have:=nodup_range h.nodup λx hx=>by
  obtain⟨e,he,rfl⟩:=aG.mp hx;exact h.range e he
 rwa[af]at this
def AllMet.zero(h:AllMet m k W):(0,[])∈W:=by
 obtain⟨E,hE⟩:=a3G W0 (W.flatMap (a4h m k));rw[h.eq,hE];exact aK
def AllMet.next(h:AllMet m k W){s:Int}{p:List Int}(hs:(s,p)∈W){a:Nat}(ha:a<k):∃q,((stp m s a).2,q)∈W/\(q=p++[(a:Int)]\/bf q (p++[(a:Int)])):=by
 have h1:=b4J (R:=bf) (b1S m k h.sor) ((stp m s a).2,p++[(a:Int)]) (aj _ (cx.mpr ⟨_,hs,aG.mpr ⟨a,bu.mpr ha,rfl⟩⟩));rw[<-h.eq]at h1;exact h1
def AllMet.leads(h:AllMet m k W):∀(n:Nat) {s:Int} {p:List Int},p.length<=n->(s,p)∈W->(i6 m 0 p).2=s/\∀a∈p,0<=a/\a<(k:Int):=by
 intro n
 induction n with
 |zero=>
  intro s p hn hs;have hp:p=[]:=tR.mp (by lia);subst hp;rw[h.eq]at hs;rcases ay.mp ((W9 _ _).subset hs) with z|z
  ·have:=aq.mp z;cases this
   exact⟨rfl,λa ha=>nomatch ha⟩
  ·obtain⟨e,_,hc⟩:=cx.mp z;obtain⟨a,_,e2⟩:=aG.mp hc;have:=dG Prod.snd e2;simp at this
 |succ n ih=>
  intro s p hn hs;rw[h.eq]at hs;rcases ay.mp ((W9 _ _).subset hs) with z|z
  ·have:=aq.mp z;cases this
   exact⟨rfl,λa ha=>nomatch ha⟩
  ·obtain⟨⟨t,q⟩,ht,hc⟩:=cx.mp z;obtain⟨a,ha,e2⟩:=aG.mp hc;cases e2
   obtain⟨i1,i2⟩:=ih (s:=t) (p:=q) (by simp at hn;lia) ht;refine⟨by rw[R8,i1],λb hb=>?_⟩;rcases ay.mp hb with z|z
   ·exact i2 b z
   ·rw[aq.mp z];have:=bu.mp ha;lia
end
section
variable {α:Type}
def kvD(enc:α->D)(W:List (Int×α)):List (D×D):=W.map λe=>(aP e.1,enc e.2)
variable {enc:α->D}{W:List (Int×α)}{t:Int}{x:α}
def b0i:(kvD enc W).length=W.length:=af ..
def b0j{V:List (Int×α)}:kvD enc (W++V)=kvD enc W++kvD enc V:=aT ..
def a5Z:D8 (kvD enc W) (.int t)=decide (t∈W.map (·.1)):=by
 induction W with
 |nil=>rfl
 |cons e W ih=>
  show (aR (.int e.1) (.int t)||D8 (kvD enc W) (.int t))=_;rw[a2B,ih];by_cases h1:e.1=t
  ·simp[h1]
  ·have h2:t≠e.1:=λz=>h1 z.symm
   simp[h1,h2]
def b0k(hn:(W.map (·.1)).Nodup)(h:(t,x)∈W):w6 (kvD enc W) (.int t)=cz (enc x):=by
 induction W with
 |nil=>cases h
 |cons e W ih=>
  rw[aB,cF]at hn;unfold w6 kvD;rw[aB,ma];show rO _ (match aR (.int e.1) (.int t) with|true=>_|false=>_)=_;rw[a2B];rcases aN.mp h with z|z
  ·rw[<-z,aV rfl];rfl
  ·have h1:e.1≠t:=λq=>hn.1 (by rw[q];exact aG.mpr ⟨_,z,rfl⟩)
   rw[aZ h1];exact ih hn.2 z
def a8T(h:t∉W.map (·.1)):w6 (kvD enc W) (.int t)=p4:=by
 refine O7 ?_;rw[a5Z,aZ h]
def b4N(h:t∉W.map (·.1)):G9 (kvD enc W) (.int t) (enc x)=kvD enc (W++[(t,x)]):=by
 unfold G9;rw[a5Z,aZ h,b0j];rfl
def b7u:C4 (kvD enc W) (.int t) (enc x)=kvD enc (dd1 W (t,x)):=by
 unfold C4;rw[a5Z];by_cases h:t∈W.map (·.1)
 ·rw[aV h,N9 (c:=(t,x)) h];rfl
 ·rw[aZ h,F7 (c:=(t,x)) h,b0j];rfl
def dKey_i{t:Int}:n6 xn (.int t)=rp:=rfl
def b0l:(kvD enc W).all (λp=>n6 xn p.1)=rp:=by
 unfold kvD;rw[List.all_map,dP];exact λe _=>dKey_i
def c0D:(kvD enc W).map (·.1)=(W.map (·.1)).map aP:=by unfold kvD;rw[bC,bC];rfl
def b4O:(kvD enc W).map (·.2)=(W.map (·.2)).map enc:=by unfold kvD;rw[bC,bC];rfl
def b7v(hn:(W.map (·.1)).Nodup)(h:(t,x)∈W):a3a xn (.dict (kvD enc W)) (.int t)=cz (enc x):=by
 show (if n6 xn (.int t) then cz ((w6 (kvD enc W) (.int t)).getD .none) else p4)=_;rw[dKey_i,b0k hn h];rfl
def a8U(h:t∉W.map (·.1)):a3a xn (.dict (kvD enc W)) (.int t)=cz .none:=by
 show (if n6 xn (.int t) then cz ((w6 (kvD enc W) (.int t)).getD .none) else p4)=_;rw[dKey_i,a8T h];rfl
end
def a8V(hv:fv U=cz d)(hk:fk U=cz k)(hd:U.getD i .none=.dict kvs)(hK:n6 kt k=rp)(hl:kvs.length<1000000) :
  A9 i kt fk fv U=cz (.nx (U.set i (.dict (G9 kvs k d)))):=by
 unfold A9;rw[hv];show (fk U).bind _=_;rw[hk];show (match U.getD i .none with|.dict kvs=>_|_=>_)=_;rw[hd];show (if _ then _ else _)=_;rw[aE (by rw[hK,aV hl];rfl)]
def c4d(hk:fk U=cz k)(hv:fv U=cz d)(hK:n6 kt k=rp):eD1 kt fk fv U=cz (.dict [(k,d)]):=by
 unfold eD1;rw[hk];show (fv U).bind _=_;rw[hv];show (if _ then _ else _)=_;rw[hK];rfl
def b7w{α:Type}{enc:α->D}{W:List (Int×α)}(h:a U=cz (.dict (kvD enc W))):a5E a U=cz (.list ((W.map (·.1)).map .int)):=by
 unfold a5E;rw[h];show (if _ then _ else _)=_;rw[aE b0l,c0D]
def b7x(h:a U=cz (.dict (kvD aP W))):a5F a U=cz (.list ((W.map (·.2)).map .int)):=by
 unfold a5F;rw[h];show (if _ then _ else _)=_;rw[aE (by rw[b0l,b4O,l5 _ (λ_=>Q9)];rfl),b4O]
section
variable {β:Type}[DecidableEq β]
abbrev N6(β:Type):=List (β×List Int)
def L5(nx:β->Nat->β)(k:Nat)(e:β×List Int):N6 β:=(aw k).map λ(a:Nat)=>(nx e.1 a,e.2++[(a:Int)])
abbrev WB(s:β):N6 β:=[(s,[])]
abbrev a6a(W:N6 β):Prop:=W.Pairwise λa b=>bf a.2 b.2
variable {nx:β->Nat->β}{k:Nat}{s:β}
def b1T(e:β×List Int):a6a (L5 nx k e):=by
 unfold a6a L5;rw[iB];exact lQ.imp λh=>b4L (by lia)
def a8W{V:N6 β}(h:a6a V):a6a (V.flatMap (L5 nx k)):=by
 induction V with
 |nil=>exact iH
 |cons e V ih=>
  obtain⟨h1,h2⟩:=gg.mp h;rw[dr];refine du.mpr ⟨b1T e,ih h2,λx hx y hy=>?_⟩;obtain⟨f,hf,hy⟩:=cx.mp hy;obtain⟨a,_,rfl⟩:=aG.mp hx;obtain⟨b,_,rfl⟩:=aG.mp hy;exact b0h _ _ (h1 f hf)
def a8X{V:N6 β}(h:a6a V):a6a (WB s++V.flatMap (L5 nx k)):=by
 refine du.mpr ⟨dI ..,a8W h,λx hx y hy=>?_⟩;rw[aq.mp hx];obtain⟨f,hf,hy⟩:=cx.mp hy;obtain⟨b,_,rfl⟩:=aG.mp hy;exact .inl (by simp)
structure MetB (nx:β->Nat->β) (k:Nat) (s:β) (P:β->Prop) (dn W:N6 β):Prop where
 eq:W=dd (WB s) (dn.flatMap (L5 nx k))
 pre:∃nw,W=dn++nw
 sor:a6a W
 ql:∀e∈W,e.2.length<=dn.length
 ok:∀e∈W,P e.1
def c2G(h:P s):MetB nx k s P [] (WB s):=⟨rfl,⟨WB s,rfl⟩,dI ..,λe he=>by rw[aq.mp he];exact az _,λe he=>by rw[aq.mp he];exact h⟩
def MetB.nodup{P:β->Prop}{dn W:N6 β}(h:MetB nx k s P dn W):(W.map (·.1)).Nodup:=by rw[h.eq];exact a3H (by simp) _
def MetB.qlen(h:MetB nx k s P dn W)(he:e∈W):e.2.length<=W.length:=by
 have:=h.ql e he;obtain⟨nw,hn⟩:=h.pre;rw[hn,av];lia
def MetB.step(hP:∀b a,P b->a<k->P (nx b a))(h:MetB nx k s P dn W)(hp:W=dn++e::nw):MetB nx k s P (dn++[e]) (dd W (L5 nx k e)):=by
 have hd:a6a (dn++[e]):=by
  have h1:=h.sor;rw[hp]at h1;exact h1.sublist (yI (iF _) (by simp))
 have he:dd W (L5 nx k e)=dd (WB s) ((dn++[e]).flatMap (L5 nx k)):=by
  rw[bX,dr,gW,aX,b4I,<-h.eq]
 refine⟨he,?_,?_,λf hf=>?_,λf hf=>?_⟩
 ·obtain⟨E,hE⟩:=a3G W (L5 nx k e);exact⟨nw++E,by rw[hE,hp];simp⟩
 ·rw[he];exact (a8X hd).sublist (W9 _ _)
 ·rw[av,bZ];rcases ay.mp ((W9 _ _).subset hf) with z|z
  ·have:=h.ql f z;lia
  ·obtain⟨a,_,rfl⟩:=aG.mp z;have:=h.ql e (by rw[hp];simp);simp;lia
 ·rcases ay.mp ((W9 _ _).subset hf) with z|z
  ·exact h.ok f z
  ·obtain⟨a,ha,rfl⟩:=aG.mp z;exact hP e.1 a (h.ok e (by rw[hp];simp)) (bu.mp ha)
structure AllB (nx:β->Nat->β) (k:Nat) (s:β) (P:β->Prop) (W:N6 β):Prop where
 eq:W=dd (WB s) (W.flatMap (L5 nx k))
 sor:a6a W
 ql:∀e∈W,e.2.length<=W.length
 ok:∀e∈W,P e.1
def MetB.all(h:MetB nx k s P W W):AllB nx k s P W:=⟨h.eq,h.sor,λe he=>h.ql e he,h.ok⟩
end
section
variable {β α:Type}[DecidableEq β]
def kvB(key:β->D)(enc:α->D)(W:List (β×α)):List (D×D):=W.map λe=>(key e.1,enc e.2)
structure KeyB (kt:Bool) (key:β->D):Prop where
 eqv:∀a b,aR (key a) (key b)=decide (a=b)
 ok:∀a,n6 kt (key a)=rp
 im:∀a,imm (key a)=rp
variable {key:β->D}{enc:α->D}{W:List (β×α)}{t:β}{x:α}{kt:Bool}
def b7y:(kvB key enc W).length=W.length:=af ..
def b7z{V:List (β×α)}:kvB key enc (W++V)=kvB key enc W++kvB key enc V:=aT ..
def a7r(K:KeyB kt key):D8 (kvB key enc W) (key t)=decide (t∈W.map (·.1)):=by
 induction W with
 |nil=>rfl
 |cons e W ih=>
  show (aR (key e.1) (key t)||D8 (kvB key enc W) (key t))=_;rw[K.eqv,ih];by_cases h1:e.1=t
  ·simp[h1]
  ·have h2:t≠e.1:=λz=>h1 z.symm
   simp[h1,h2]
def b4P(K:KeyB kt key)(hn:(W.map (·.1)).Nodup)(h:(t,x)∈W):w6 (kvB key enc W) (key t)=cz (enc x):=by
 induction W with
 |nil=>cases h
 |cons e W ih=>
  rw[aB,cF]at hn;unfold w6 kvB;rw[aB,ma];show rO _ (match aR (key e.1) (key t) with|true=>_|false=>_)=_;rw[K.eqv];rcases aN.mp h with z|z
  ·rw[<-z,aV rfl];rfl
  ·have h1:e.1≠t:=λq=>hn.1 (by rw[q];exact aG.mpr ⟨_,z,rfl⟩)
   rw[aZ h1];exact ih hn.2 z
def b1U(K:KeyB kt key)(h:t∉W.map (·.1)):G9 (kvB key enc W) (key t) (enc x)=kvB key enc (W++[(t,x)]):=by
 unfold G9;rw[a7r K,aZ h,b7z];rfl
def b4Q(K:KeyB kt key):dIn neg kt (key t) (.dict (kvB key enc W))=cz (.bool (neg !=decide (t∈W.map (·.1)))):=by
 show (if n6 kt (key t) then cz (cL (neg !=D8 (kvB key enc W) (key t))) else p4)=_;rw[K.ok,a7r K];rfl
def c0E(K:KeyB kt key)(hn:(W.map (·.1)).Nodup)(h:(t,x)∈W):a5A kt (.dict (kvB key enc W)) (key t)=cz (enc x):=by
 show (if n6 kt (key t) then w6 (kvB key enc W) (key t) else p4)=_;rw[K.ok,b4P K hn h];rfl
end
def b4R{β α:Type}[DecidableEq β]{W:List (β×α)}{c:β×α}(h:L<=W.length):((dd1 W c).drop L).map (·.1)=if c.1∈W.map (·.1) then (W.drop L).map (·.1) else (W.drop L).map (·.1)++[c.1]:=by
 by_cases hc:c.1∈W.map (·.1)
 ·rw[N9 hc,aE hc]
 ·rw[F7 hc,aM hc,pZ h,aT,cm]
def b4S[DecidableEq β](W C:List (β×α)):W.length<=(dd W C).length:=by
 obtain⟨E,e⟩:=a3G W C;rw[e,av];lia
def b7A[DecidableEq β](C:List (β×α))(h:e∈W):e∈dd W C:=by
 obtain⟨E,q⟩:=a3G W C;rw[q];exact ak _ h
def c2H(h:argsOk us ds=rp):fnL us n g gm ds=a2X (g gm (ds++(.none::aI n .none))):=by
 unfold fnL;rw[aE h];cases g gm (ds++(.none::aI n .none)) with
 |none=>rfl
 |some o=>cases o<;>rfl
def c2I(h:f U=cz ds):b6W m us js fb f U=m (fnE us (js.map λj=>U.getD j .none) fb) ds:=by
 unfold b6W;rw[h];rfl
def c2J(h:argsOk us ds=rp):fnE us r_ f ds=f (ds++r_):=aE h
abbrev PW:=List ((Int×Int)×List Int)
def atI_nums{ns:List Int}{j:Int}(a:0<=j)(b:j<ns.length):L2.atI (ns.map aP) j=cz (.int (ns.getD j.toNat 0)):=by
 rw[a1m a (by rw[af];exact b),dE];rw[ah,ab (by lia)];rfl
def a2u:Option (List Int)->D
 |none=>.none
 |some q=>.list (q.map .int)
def a8Y:z7 rp [.int i,.int j]=cz (.int (max i j)):=by
 show cz (aP (if j>i then j else i))=_
 congr 2;by_cases c:j>i
 ·rw[aE c];lia
 ·rw[aM c];lia
def a8Z:z7 xn [.int i,.int j]=cz (.int (min i j)):=by
 show cz (aP (if j<i then j else i))=_
 congr 2;by_cases c:j<i
 ·rw[aE c];lia
 ·rw[aM c];lia
end VS
namespace Prog
open L2 VS
def O1{ls:List Int}(hn:∀p∈r,0<=p.2/\p.2<(ls.length:Int))(hl:r.length<=1000):j5 [rwD r,iD ls]=cz (rwD (rn r ls)):=by
 unfold j5;rw[A7 (by simp[VS.argsOk])];unfold R9;rw[a9z,a3s (ds:=r.map stD) (λd=>match d with|.tuple [.int a,.int b]=>stD (a,ls.getD b.toNat 0)|_=>.none)]
 ·rw[bC];show cz (cA (r.map _))=_;unfold rwD rn;rw[bC];rfl
 ·exact a0r (by unfold rwD;walk_at "ev") (l5 _ (λ_=>a1y) r)
 ·rw[af];lia
 ·intro d hd;obtain⟨p,hp,rfl⟩:=aG.mp hd;have:=hn p hp;refine⟨[.int p.1,.int p.2],rfl,?_⟩;show a0F _ [.int p.1,.int p.2,.list (ls.map .int)]=cz (stD (p.1,ls.getD p.2.toNat 0));walk_at "ev";rw[P9 this.1 this.2];walk_at "ev";rfl
def b4T{m:g9}{ls:List Int}(hn:∀r∈m,∀p∈r,0<=p.2/\p.2<(ls.length:Int))(hl:∀r∈m,r.length<=1000)(hm:m.length<=1000):u6 [.list (m.map rwD),iD ls]=cz (iD (a1D (m.map λr=>rn r ls))):=by
 unfold u6;rw[A7 (by simp[VS.argsOk])];unfold Z9;walk_at "ev";refine C0 (λU=>∃x y z,U=[.list (m.map rwD),iD ls,x,iD (a1D (m.map λr=>rn r ls)),y,z]) ?_ ?_
 ·obtain⟨U',h1,x,y,rfl⟩:=t9 (enc:=rwD) (set:=p6 4) (xs:=m) (g:=f7 (i5 5 (O6 (eCl j5 (a6 (a4 4) (a6 (a4 1) b8))))) (a6H 3 (U2 2 rp (a4 5) (eCl a3b (a6 (a4 2) b8)))))
   (U:=[.list (m.map rwD),iD ls,.dict [],.list [],.none,.none])
   (λpre U=>∃x y,U=[.list (m.map rwD),iD ls,.dict (dz (ded (pre.map λr=>rn r ls)) 0),iD (a1D (pre.map λr=>rn r ls)),x,y])
   ⟨.none,.none,rfl⟩ (by
    rintro pre r post e U ⟨x,y,rfl⟩;have hr:r∈m:=by rw[e];simp
    have hlen:pre.length<m.length:=by rw[e];simp
    have hd:=a9W (pre.map λr=>rn r ls);rw[af]at hd;refine⟨_,[.list (m.map rwD),iD ls,.dict (dz (ded ((pre++[r]).map λr=>rn r ls)) 0),iD (a1D ((pre++[r]).map λr=>rn r ls)),rwD r,Q0 (rn r ls)],rfl,?_,_,_,rfl⟩;walk_at "ev";rw[a2C (ds:=(rn r ls).map stD) (by walk_at "ev";exact O1 (hn r hr) (hl r hr)) (l5 _ (λ_=>a1y) _)];walk_at "ev";rw[c0A (k:=Q0 (rn r ls)) (e:=.int ((ded (pre.map λr=>rn r ls)).length:Nat)) (kvs:=dz (ded (pre.map λr=>rn r ls)) 0) (ds:=(a1D (pre.map λr=>rn r ls)).map .int) (by rfl) (by walk_at "ev";rw[b4E,a8R]) (by rfl) (b1Q _) (by rw[a8R];lia) (by rfl) (by rfl) (by decide) (by rw[af,a7p,af];lia)];rw[b7r,b7s,aT,cm,G5];have uA:a1D ((pre.map λr=>rn r ls)++[rn r ls])=a1D (pre.map λr=>rn r ls)++[(((a4g (ded (pre.map λr=>rn r ls)) (rn r ls)).idxOf (rn r ls):Nat):Int)]:=by
     unfold a1D;rw[aT,cm,G5]
     congr 1;refine bW λy hy=>?_
     rw[b4A (S9.mpr hy)]
    rw[uA];unfold iD;rw[aT];rfl)
  exact⟨_,h1,_,_,_,rfl⟩
 ·rintro U ⟨x,y,z,rfl⟩;walk_at "ev"
end Prog
namespace VS
open L2
def b4U{U ds:List D}(h:U.getD j .none=.list ds)(hl:ds.length<1000000)(hf:f (U.set j (.list (ds++[U.getD i .none])))=cz d):Y0 j i f U=cz (.nx ((U.set j (.list (ds++[U.getD i .none]))).set i d)):=by
 unfold Y0;rw[h];show (if _ then _ else _)=_;rw[aE hl,hf];rfl
def a6b{α:Type}{f:Nat->α}{j:Nat}:L2.atI ((aw (j+1)).map f) (-1)=cz (f j):=by
 unfold L2.atI ixN;rw[af,bB,aM (by decide),aE (by lia)];show ((aw (j+1)).map f)[((j+1:Nat)+(-1:Int)).toNat]?=_;rw[show (((j+1:Nat):Int)+(-1:Int)).toNat=j by lia,aQ,eY (by lia)];rfl
end VS
namespace Prog
open L2 VS
def a4T{m:g9}{k:Nat}(w:WF m k)(d:Nat):u6 [.list (m.map rwD),iD (lvl m d)]=cz (iD (lvl m (d+1))):=by
 refine b4T (λr hr p hp=>?_) (λr hr=>by rw[w.rows r hr];have:=w.k5;lia) (by have:=w.le;lia);rw[T0];exact w.next r hr p hp
def a4U{m:g9}{k:Nat}(w:WF m k):∃D:Nat,C5 [.list (m.map rwD)]=cz (.list ((aw (D+1)).map λd=>iD (lvl m d)))/\D+1<=m.length/\(∀i<D,cls m i<cls m (i+1))/\
  ∀s t:Int,0<=s->s<m.length->0<=t->t<m.length->lv m D s=lv m D t->lv m (D+1) s=lv m (D+1) t:=by
 unfold C5;rw[A7 (by simp[VS.argsOk])];unfold a2c;have hle:=w.le;have h0:m6 (iL (a4 0)) [] pt1 tT (eC (.int 0)) [.list (m.map rwD),.none,.none]=cz (iD (lvl m 0)):=by
  rw[a3s (ds:=m.map rwD) (λ_=>.int 0)]
  ·rw[bC];show _=cz (cA ((m.map λ_=>(0:Int)).map .int));rw[bC];rfl
  ·walk_at "ev"
  ·rw[af];lia
  ·exact λd hd=>⟨[d],rfl,rfl⟩
 walk_at "ev";show ∃D,a2X (thn (b6j 1 (listE (b3b (m6 (iL (a4 0)) [] pt1 tT (eC (.int 0)) [.list (m.map rwD),.none,.none]) (cz []))) [.list (m.map rwD),.none,.none]) _)=_/\_;rw[h0];walk_at "ev";rw[show L2.atI [iD (lvl m 0)] (-1)=cz (iD (lvl m 0)) from a6b (f:=λd=>iD (lvl m d)) (j:=0)];walk_at "ev";rw[a4T w 0];walk_at "ev";rw[b7q];obtain⟨U',h1,D,rfl,q1,q2⟩:=Y6 (c:=tB (e2 dGt (eCl Z6 (a6 (a4 2) b8)) (eCl Z6 (a6 (e2 a3X (a4 1) (eC (.int (-1)))) b8)))) (g:=f7 (Y0 1 2 (eCl u6 (a6 (a4 0) (a6 (a4 2) b8)))) E3)
  (I:=λj U=>U=[.list (m.map rwD),.list ((aw (j+1)).map λd=>iD (lvl m d)),iD (lvl m (j+1))]/\∀i<j,cls m i<cls m (i+1))
  (Q:=λU=>∃j,U=[.list (m.map rwD),.list ((aw (j+1)).map λd=>iD (lvl m d)),iD (lvl m (j+1))]/\(∀i<j,cls m i<cls m (i+1))/\cls m (j+1)<=cls m j) 30
  (by
   rintro j U ⟨rfl,hc⟩;have up:∀i≤j,i+1<=cls m i:=by
    intro i
    induction i with
    |zero=>intro _;exact a1c w 0
    |succ i ih=>intro hi;have:=ih (by lia);have:=hc i (by lia);lia
   have hj:=up j (az _);have pS:=a9Z m j;refine⟨by lia,?_⟩;have nI:tB (e2 dGt (eCl Z6 (a6 (a4 2) b8)) (eCl Z6 (a6 (e2 a3X (a4 1) (eC (.int (-1)))) b8))) [.list (m.map rwD),.list ((aw (j+1)).map λd=>iD (lvl m d)),iD (lvl m (j+1))]=cz (decide (cls m j<cls m (j+1))):=by
    walk_at "ev";rw[a6b (f:=λd=>iD (lvl m d))];walk_at "ev";unfold iD;rw[b0f w,b0f w];walk_at "ev";have h1:=a1c w j;have h2:=a1c w (j+1)
    congr 1;exact decide_eq_decide.mpr (by lia)
   rw[nI];by_cases c:cls m j<cls m (j+1)
   ·refine .inr ⟨by rw[aV c],[.list (m.map rwD),.list ((aw (j+2)).map λd=>iD (lvl m d)),iD (lvl m (j+2))],?_,rfl,λi hi=>?_⟩
    ·rw[Z5,b4U (ds:=(aw (j+1)).map λd=>iD (lvl m d)) (d:=iD (lvl m (j+2))) (by rfl) (by rw[af,bB];lia) (by walk_at "ev";exact a4T w (j+1))];walk_at "ev";rw[ic (n:=j+1),aT];rfl
    ·rcases bK i j with z|z
     ·exact hc i z
     ·rw[show i=j by lia];exact c
   ·exact .inl ⟨by rw[aZ c],j,rfl,hc,by lia⟩) 1000000 0 [.list (m.map rwD),.list [iD (lvl m 0)],iD (lvl m 1)] ⟨rfl,λi hi=>absurd hi (by lia)⟩ (by lia)
 rw[h1];walk_at "ev";have up:∀i≤D,i+1<=cls m i:=by
  intro i
  induction i with
  |zero=>intro _;exact a1c w 0
  |succ i ih=>intro hi;have:=ih (by lia);have:=q1 i (by lia);lia
 have hj:=up D (az _);have pS:=a9Z m D;exact⟨D,rfl,by lia,q1,λs t s0 s1 t0 t1 h=>(b4C w D).2 q2 s t s0 s1 t0 t1 h⟩
end Prog
namespace VS
open L2
def dk1(K:List Int)(x:Int):List Int:=if x∈K then K else K++[x]
def dkk(K L:List Int):List Int:=L.foldl dk1 K
section
variable {K L L':List Int}{x:Int}
def T4(h:x∈K):dk1 K x=K:=aE h
def T5(h:x∉K):dk1 K x=K++[x]:=aM h
def T6:dkk K (L++L')=dkk (dkk K L) L':=by unfold dkk;rw[fP]
def B7:dkk K (L++[x])=dk1 (dkk K L) x:=by rw[T6];rfl
def J8(K L:List Int):x∈dkk K L↔x∈K\/x∈L:=by
 induction L using snoc_ind with
 |h0=>simp[dkk]
 |h1 L y ih=>
  rw[B7,ay,<-or_assoc,<-ih,aq];by_cases h:y∈dkk K L
  ·rw[T4 h];exact⟨.inl,λz=>z.elim id λz=>z▸h⟩
  ·rw[T5 h,ay,aq]
def a2D(K L:List Int):∃E,dkk K L=K++E:=by
 induction L using snoc_ind with
 |h0=>exact⟨[],(aX _).symm⟩
 |h1 L y ih=>
  obtain⟨E,e⟩:=ih;rw[B7];by_cases h:y∈dkk K L
  ·rw[T4 h];exact⟨E,e⟩
  ·rw[T5 h,e];exact⟨E++[y],aH ..⟩
def b1V(h:K.Nodup)(L:List Int):(dkk K L).Nodup:=by
 induction L using snoc_ind with
 |h0=>exact h
 |h1 L y ih=>
  rw[B7];by_cases hy:y∈dkk K L
  ·rw[T4 hy];exact ih
  ·rw[T5 hy,bV];exact⟨ih,by simp,λa ha b hb e=>hy (by rw[aq.mp hb]at e;exact e▸ha)⟩
def b4V(h:∀x∈L,x∈K):dkk K L=K:=by
 induction L using snoc_ind with
 |h0=>rfl
 |h1 L y ih=>
  have e:=ih λx hx=>h x (ak _ hx)
  rw[B7,e,T4 (h y (by simp))]
def b7B(c:Int->Int)(X K L:List Int):dkk X ((dkk K L).map c)=dkk X ((K++L).map c):=by
 induction L using snoc_ind with
 |h0=>rw[aX];rfl
 |h1 L y ih=>
  rw[B7,<-aH,aT,cm,B7,<-ih];by_cases h:y∈dkk K L
  ·rw[T4 h,T4];exact (J8 _ _).mpr (.inr (cY h))
  ·rw[T5 h,aT,cm,B7]
def b4W(W C:List (Int×α)):(dd W C).map (·.1)=dkk (W.map (·.1)) (C.map (·.1)):=by
 induction C using snoc_ind with
 |h0=>rfl
 |h1 C c ih=>
  rw[N5,aT,cm,B7,<-ih];by_cases h:c.1∈(dd W C).map (·.1)
  ·rw[N9 h,T4 h]
  ·rw[F7 h,T5 h,aT,cm]
def b7C{A B:List Int}(h:x∈A):(A++B).idxOf x=A.idxOf x:=by rw[kG,aE h]
def b4X{s:List Int}(hx:x∈s)(hy:y∈s)(h:s.idxOf x=s.idxOf y):x=y:=by
 have h1:=dY (b_.mpr hx);have h2:=dY (b_.mpr hy);rw[<-h1,<-h2];simp only[h]
end
section
variable {m:g9}{k:Nat}{c:Int->Int}{r:List Int}
def a6c(m:g9)(k:Nat)(c:Int->Int):Prop:=∀s t:Int,0<=s->s<m.length->0<=t->t<m.length->c s=c t->∀a:Int,0<=a->a<k->(stp m s a).1=(stp m t a).1/\c (stp m s a).2=c (stp m t a).2
structure Rch (m:g9) (k:Nat) (r:List Int):Prop where
 eq:r=dkk [0] (r.flatMap λs=>(aw k).map λ(a:Nat)=>(stp m s a).2)
 range:∀s∈r,0<=s/\s<(m.length:Int)
 len:r.length<=m.length
 walks:∀s∈r,∃p:List Int,(i6 m 0 p).2=s/\∀a∈p,0<=a/\a<(k:Int)
def fc(c:Int->Int)(r:List Int):List (Int×Int):=dd [] (r.map λs=>(c s,s))
def cl(c:Int->Int)(r:List Int):List Int:=(fc c r).map (·.1)
def fs(c:Int->Int)(r:List Int):List Int:=(fc c r).map (·.2)
def pls(c:Int->Int)(r:List Int)(s:Int):Nat:=(cl c r).idxOf (c s)
def m8(m:g9)(c:Int->Int)(r:List Int):g9:=(fs c r).map λf=>(rowAt m f).map λp=>(p.1,(pls c r p.2:Int))
def a0t{e:Int×Int}(h:e∈fc c r):e.2∈r/\e.1=c e.2:=by
 have h1:=(W9 _ _).subset h;rw[bT]at h1;obtain⟨s,hs,rfl⟩:=aG.mp h1;exact⟨hs,rfl⟩
def b0m:cl c r=dkk [] (r.map c):=by
 unfold cl fc;rw[b4W,bC];rfl
def X0:(cl c r).Nodup:=by rw[b0m];exact b1V bE _
def a1G(h:s∈r):c s∈cl c r:=by rw[b0m];exact (J8 _ _).mpr (.inr (cY h))
def a1H:(cl c r).length=(fs c r).length:=by unfold cl fs;rw[af,af]
def a9a:(fs c r).length<=r.length:=by
 have:=a8S (W:=[]) (r.map λs=>(c s,s));unfold fs fc;rw[af];simpa using this
def a1d(i:Nat)(h:i<(fs c r).length):∃f,(fs c r)[i]?=cz f/\f∈r/\(cl c r)[i]?=cz (c f):=by
 have h1:i<(fc c r).length:=by unfold fs at h;rwa[af]at h
 refine⟨((fc c r)[i]).2,?_,?_,?_⟩
 ·unfold fs;rw[aQ,ab h1];rfl
 ·exact (a0t (dh h1)).1
 ·unfold cl;rw[aQ,ab h1,<-(a0t (dh h1)).2];rfl
def c0F:cl c r=(fs c r).map c:=by
 unfold cl fs;rw[bC];exact bW λe he=>(a0t he).2
def a3I(h:s∈r):pls c r s<(fs c r).length:=by rw[<-a1H];exact b_.mpr (a1G h)
def b4Y(h:s∈r):∃f,(fs c r)[pls c r s]?=cz f/\f∈r/\c f=c s:=by
 obtain⟨f,h1,h2,h3⟩:=a1d (c:=c) (r:=r) _ (a3I h);refine⟨f,h1,h2,?_⟩;have h4:=dY (b_.mpr (a1G (c:=c) h));have h5:=ab (b_.mpr (a1G (c:=c) h));rw[h4]at h5;unfold pls at h3;rw[h5]at h3;exact (aF h3).symm
def Rch.zero(R:Rch m k r):0∈r:=by rw[R.eq];exact (J8 _ _).mpr (.inl (by simp))
def Rch.next(R:Rch m k r){s:Int}(hs:s∈r){a:Int}(h0:0<=a)(h1:a<k):(stp m s a).2∈r:=by
 rw[R.eq];refine (J8 _ _).mpr (.inr (cx.mpr ⟨s,hs,aG.mpr ⟨a.toNat,bu.mpr (by lia),?_⟩⟩));rw[e_ h0]
def a7s(R:Rch m k r):pls c r 0=0:=by
 unfold pls;rw[b0m,R.eq];obtain⟨E,e⟩:=a2D [0] (r.flatMap λs=>(aw k).map λ(a:Nat)=>(stp m s a).2);rw[e,aT,T6];obtain⟨E2,e2⟩:=a2D (dkk [] ([0].map c)) (E.map c);rw[e2];show (([]++[c 0])++E2).idxOf (c 0)=0;simp
def E8:(m8 m c r).length=(fs c r).length:=af ..
def a9b(h:(fs c r)[i]?=cz f):rowAt (m8 m c r) (i:Nat)=(rowAt m f).map λp=>(p.1,(pls c r p.2:Int)):=by
 unfold rowAt m8;rw[bH,ah,aQ,h];rfl
def a3J(w:WF m k)(jy:∀s:Int,0<=s->s<m.length->(rowAt m s).length=k){i:Nat}{f:Int}(h:(fs c r)[i]?=cz f)(h0:0<=f)(h1:f<m.length){a:Int}(a0:0<=a)(a1:a<k):stp (m8 m c r) (i:Nat) a=((stp m f a).1,(pls c r (stp m f a).2:Int)):=by
 unfold stp;rw[a9b h,ah,aQ];have hl:=jy f h0 h1;rw[ab (by lia),ah,ab (by lia)];rfl
def a1I(w:WF m k)(R:Rch m k r):WF (m8 m c r) k:=by
 refine⟨?_,?_,w.k1,w.k5,λx hx=>?_,λx hx p hp=>?_⟩
 ·rw[E8];exact kc (bL _) (a3I (c:=c) R.zero)
 ·rw[E8];have:=a9a (c:=c) (r:=r);have:=R.len;have:=w.le;lia
 ·obtain⟨f,hf,rfl⟩:=aG.mp hx;rw[af];obtain⟨e,he,rfl⟩:=aG.mp hf;have h1:=R.range _ (a0t he).1;exact w.rows _ (by
   unfold rowAt;rw[ah,ab (by lia)];exact dh _)
 ·obtain⟨f,hf,rfl⟩:=aG.mp hx;obtain⟨q,hq,rfl⟩:=aG.mp hp;obtain⟨e,he,rfl⟩:=aG.mp hf;have h1:=(a0t he).1;have hr:=R.range _ h1;have hm:rowAt m e.2∈m:=by
   unfold rowAt;rw[ah,ab (by lia)];exact dh _
  obtain⟨j,hj⟩:=cW.mp hq;have qB:=(aD.mp hj).1;rw[w.rows _ hm]at qB;have hs:stp m e.2 (j:Nat)=q:=by
   unfold stp;rw[bH,ah,hj];rfl
  have h2:=R.next h1 (a:=(j:Nat)) (by lia) (by lia);rw[hs]at h2;have h3:=a3I (c:=c) h2;rw[E8];show (0:Int)<=(pls c r q.2:Int)/\(pls c r q.2:Int)<((fs c r).length:Int);lia
def X1(w:WF m k)(jy:∀s:Int,0<=s->s<m.length->(rowAt m s).length=k)(C:a6c m k c)(R:Rch m k r){s:Int}(hs:s∈r){a:Int}(a0:0<=a)(a1:a<k):stp (m8 m c r) (pls c r s:Int) a=((stp m s a).1,(pls c r (stp m s a).2:Int)):=by
 obtain⟨f,h1,h2,h3⟩:=b4Y (c:=c) hs;have r1:=R.range _ h2;have r2:=R.range _ hs;rw[a3J w jy h1 r1.1 r1.2 a0 a1];obtain⟨h4,h5⟩:=C f s r1.1 r1.2 r2.1 r2.2 h3 a a0 a1;rw[h4];unfold pls;rw[h5]
theorem a2l(w:WF m k)(jy:∀s:Int,0<=s->s<m.length->(rowAt m s).length=k)(C:a6c m k c)(R:Rch m k r):∀(p:List Int) {s:Int},s∈r->(∀a∈p,0<=a/\a<(k:Int))->i6 (m8 m c r) (pls c r s:Int) p=((i6 m s p).1,(pls c r (i6 m s p).2:Int))
 |[],s,_,_=>rfl
 |a::p,s,hs,h=>by
  have ha:=h a aK;show ((stp (m8 m c r) (pls c r s:Int) a).1::(i6 (m8 m c r) (stp (m8 m c r) (pls c r s:Int) a).2 p).1,(i6 (m8 m c r) (stp (m8 m c r) (pls c r s:Int) a).2 p).2)=_;rw[X1 w jy C R hs ha.1 ha.2];show ((stp m s a).1::(i6 (m8 m c r) (pls c r (stp m s a).2:Int) p).1,(i6 (m8 m c r) (pls c r (stp m s a).2:Int) p).2)=_;rw[a2l w jy C R p (R.next hs ha.1 ha.2) λb hb=>h b (ar _ hb)];rfl
end
def AllMet.rch(h:AllMet m k W):Rch m k (W.map (·.1)):=by
 refine⟨?_,λs hs=>?_,by rw[af];exact h.len,λs hs=>?_⟩
 ·have h1:=b4W W0 (W.flatMap (a4h m k));rw[<-h.eq]at h1;have h2:(W.flatMap (a4h m k)).map (·.1)=(W.map (·.1)).flatMap λs=>(aw k).map λ(a:Nat)=>(stp m s a).2:=by
   rw[FT,List.flatMap_map]
   congr 1
   funext e
   unfold a4h;rw[bC];rfl
  rw[h2]at h1;exact h1
 ·obtain⟨e,he,rfl⟩:=aG.mp hs;exact h.range e he
 ·obtain⟨⟨t,p⟩,he,rfl⟩:=aG.mp hs;exact⟨p,h.leads _ (az _) he⟩
section
variable {m:g9}{k:Nat}{c:Int->Int}{r:List Int}
def csu(m:g9)(k:Nat)(c:Int->Int)(s:Int):List Int:=(aw k).map λ(a:Nat)=>c (stp m s a).2
def c0G(C:a6c m k c){s t:Int}(s0:0<=s)(s1:s<m.length)(t0:0<=t)(t1:t<m.length)(h:c s=c t):csu m k c s=csu m k c t:=by
 unfold csu;exact bW λa ha=>(C s t s0 s1 t0 t1 h a (by lia) (by have:=bu.mp ha;lia)).2
def a9c(C:a6c m k c)(X:List Int):∀(r:List Int),(∀s∈r,0<=s/\s<(m.length:Int))->dkk X (r.flatMap (csu m k c))=dkk X ((fs c r).flatMap (csu m k c)):=by
 intro r
 induction r using snoc_ind with
 |h0=>intro _;rfl
 |h1 r s ih=>
  intro hr;have ih:=ih λs hs=>hr s (ak _ hs)
  have hs:=hr s (by simp);rw[bX,T6,dr,gW,aX];have e:fc c (r++[s])=dd1 (fc c r) (c s,s):=by unfold fc;rw[aT,cm,N5]
  by_cases h:c s∈(fc c r).map (·.1)
  ·have e2:fs c (r++[s])=fs c r:=by unfold fs;rw[e,N9 (c:=(c s,s)) h]
   rw[e2,<-ih];refine b4V λx hx=>(J8 _ _).mpr (.inr ?_)
   obtain⟨f,hf,ef⟩:=aG.mp h;have rZ:=a0t hf;have nU:=hr f.2 (ak _ rZ.1);rw[c0G C hs.1 hs.2 nU.1 nU.2 (by rw[<-rZ.2];exact ef.symm)]at hx;exact cx.mpr ⟨f.2,rZ.1,hx⟩
  ·have e2:fs c (r++[s])=fs c r++[s]:=by unfold fs;rw[e,F7 (c:=(c s,s)) h,aT];rfl
   rw[e2,bX,T6,<-ih,dr,gW,aX]
def a6d(C:a6c m k c)(R:Rch m k r):cl c r=dkk [c 0] ((fs c r).flatMap (csu m k c)):=by
 rw[<-a9c C [c 0] r R.range,b0m];have e:dkk [] (r.map c)=dkk [] ((dkk [0] (r.flatMap λs=>(aw k).map λ(a:Nat)=>(stp m s a).2)).map c):=by rw[<-R.eq]
 rw[e,b7B,aT,T6];have e2:(r.flatMap λs=>(aw k).map λ(a:Nat)=>(stp m s a).2).map c=r.flatMap (csu m k c):=by
  rw[FT]
  congr 1
  funext s
  unfold csu;rw[bC];rfl
 rw[e2];rfl
def b7D(C:a6c m k c)(R:Rch m k r){j:Nat}(hj:j<(fs c r).length):j<(dkk [c 0] (((fs c r).take j).flatMap (csu m k c))).length:=by
 refine Nat.lt_of_not_le λhZ=>?_
 have pS:=a6d C R;rw[<-fF j (fs c r),bX,T6]at pS;obtain⟨E,e⟩:=a2D (dkk [c 0] (((fs c r).take j).flatMap (csu m k c))) (((fs c r).drop j).flatMap (csu m k c));rw[e]at pS;have iN:∀x,x∈dkk [c 0] (((fs c r).take j).flatMap (csu m k c))↔x=c 0\/x∈((fs c r).take j).flatMap (csu m k c):=λx=>by rw[J8,aq]
 generalize dkk [c 0] (((fs c r).take j).flatMap (csu m k c))=Zq at hZ pS iN;have w_:∀x∈Zq,(cl c r).idxOf x<j:=λx hx=>by
  rw[pS,b7C hx];have:=b_.mpr hx;lia
 have qY:∀s∈r,c s∈Zq->∀a:Int,0<=a->a<k->c (stp m s a).2∈Zq:=λs hs hz a a0 a1=>by
  obtain⟨f,h1,h2,h3⟩:=b4Y (c:=c) hs;have r1:=R.range _ h2;have r2:=R.range _ hs;rw[<-(C f s r1.1 r1.2 r2.1 r2.2 h3 a a0 a1).2];refine (iN _).mpr (.inr (cx.mpr ⟨f,?_,aG.mpr ⟨a.toNat,bu.mpr (by lia),by rw[e_ a0]⟩⟩));have hp:pls c r s<j:=w_ _ hz;exact bo (i:=pls c r s) (by rw[kR hp];exact h1)
 have gR:∀p:List Int,(∀a∈p,0<=a/\a<(k:Int))->(i6 m 0 p).2∈r/\c (i6 m 0 p).2∈Zq:=by
  intro p
  induction p using snoc_ind with
  |h0=>exact λ_=>⟨R.zero,(iN _).mpr (.inl rfl)⟩
  |h1 p a ih=>
   intro hp;obtain⟨i1,i2⟩:=ih λb hb=>hp b (ak _ hb)
   have ha:=hp a (by simp);rw[R8];exact⟨R.next i1 ha.1 ha.2,qY _ i1 i2 a ha.1 ha.2⟩
 obtain⟨f,f1,f2,f3⟩:=a1d (c:=c) (r:=r) j hj;obtain⟨p,p1,p2⟩:=R.walks f f2;have h1:=(gR p p2).2;rw[p1]at h1;have h2:=w_ _ h1;have hi:(cl c r).idxOf (c f)<(cl c r).length:=b_.mpr (a1G f2);have h3:(cl c r)[(cl c r).idxOf (c f)]?=cz (c f):=by rw[ab hi,dY hi]
 have:=(iC hi X0).mp (h3.trans f3.symm);lia
def b4Z(h:(fs c r)[i]?=cz f):pls c r f=i:=by
 have hi:=(aD.mp h).1;obtain⟨f',f1,f2,f3⟩:=a1d (c:=c) (r:=r) i hi;rw[h]at f1;cases f1
 have hj:(cl c r).idxOf (c f)<(cl c r).length:=b_.mpr (a1G f2);have h3:(cl c r)[(cl c r).idxOf (c f)]?=cz (c f):=by rw[ab hj,dY hj]
 exact (iC hj X0).mp (h3.trans f3.symm)
end
theorem a3K:∀(l:List D) (j:Nat),E4 l j=(aw l.length).map λ(s:Nat)=>dt [.int ((j+s:Nat):Int),l.getD s .none]
 |[],_=>rfl
 |n::ls,k=>by
  show dt [.int k,n]::E4 ls (k+1)=_;rw[a3K ls (k+1),aS,uU,aB,bC]
  congr 1;refine bW λs _=>?_
  show dt [.int ((k+1+s:Nat):Int),ls.getD s .none]=.tuple [.int ((k+(s+1):Nat):Int),(n::ls).getD (s+1) .none];rw[eZ,gx,jM 1]
def a1e(f:Nat->D)(k:Nat):E4 ((aw k).map f) 0=(aw k).map λ(a:Nat)=>dt [.int (a:Int),f a]:=by
 rw[a3K,af,bB];refine bW λa ha=>?_
 have h:=bu.mp ha;rw[iz,ah,aQ,eY h];rfl
end VS
namespace Prog
open L2 VS
abbrev iDl:List Int->D:=λns=>.list (ns.map .int)
abbrev kLs{β:Type}(key:β->D)(l:List β):D:=.list (l.map key)
def b5a[DecidableEq β](K:KeyB xn key){gm:List D->Option D}(hk:k<=5){W:N6 β}{q:List Int}(hq:(b,q)∈W)(qA:(W.map (·.1)).Nodup)(hL:L<=W.length)(hW:W.length<=1000)(Br:q.length<=1000)(s0 t_ x y:D) :
  ∃x' y',U7 (a2S 6 7) ((sIf (tB (e2 (dIn rp xn) (a4 7) (a4 2))) (f7 (A9 2 xn (a4 7) (eI (F8 (e2 (a5A xn) (a4 2) (a4 5)) (x6 (a6 (a4 6) b8))))) (W1 4 (.l .i) y7 (a4 7))) E3)) ((aw k).map λ(a:Nat)=>dt [.int (a:Int),key (nx b a)]) [s0,.none,.dict (kvB key iDl W),t_,kLs key ((W.drop L).map (·.1)),key b,x,y] =
   cz (.nx [s0,.none,.dict (kvB key iDl (dd W (L5 nx k (b,q)))),t_,kLs key (((dd W (L5 nx k (b,q))).drop L).map (·.1)),key b,x',y']):=by
 obtain⟨U',g1,x',y',rfl⟩:=t9 (enc:=λ(a:Nat)=>dt [.int (a:Int),key (nx b a)]) (set:=a2S 6 7) (xs:=aw k) (g:=(sIf (tB (e2 (dIn rp xn) (a4 7) (a4 2))) (f7 (A9 2 xn (a4 7) (eI (F8 (e2 (a5A xn) (a4 2) (a4 5)) (x6 (a6 (a4 6) b8))))) (W1 4 (.l .i) y7 (a4 7))) E3))
  (U:=[s0,.none,.dict (kvB key iDl W),t_,kLs key ((W.drop L).map (·.1)),key b,x,y])
  (λpre U=>∃x y,U=[s0,.none,.dict (kvB key iDl (dd W (pre.map λ(a:Nat)=>(nx b a,q++[(a:Int)])))),t_,kLs key (((dd W (pre.map λ(a:Nat)=>(nx b a,q++[(a:Int)]))).drop L).map (·.1)),key b,x,y]) ⟨x,y,rfl⟩ (by
   rintro pre a post e U ⟨x,y,rfl⟩;obtain⟨ea,ha,_⟩:=W5 e;have wK:=a3H qA (pre.map λ(a:Nat)=>(nx b a,q++[(a:Int)]));have iN:=b7A (pre.map λ(a:Nat)=>(nx b a,q++[(a:Int)])) hq;have hlen:=a8S W (pre.map λ(a:Nat)=>(nx b a,q++[(a:Int)]));have DS:=b4S W (pre.map λ(a:Nat)=>(nx b a,q++[(a:Int)]));have gK:(pre.map λ(a:Nat)=>(nx b a,q++[(a:Int)])).length<=5:=by rw[af];lia
   rw[aT,cm,N5];generalize dd W (pre.map λ(a:Nat)=>(nx b a,q++[(a:Int)]))=V at wK iN hlen DS;have zQ:=c0E (enc:=iDl) K wK iN;by_cases c:nx b a∈V.map (·.1)
   ·refine⟨_,[s0,.none,.dict (kvB key iDl V),t_,kLs key ((V.drop L).map (·.1)),key b,.int a,key (nx b a)],rfl,?_,_,_,by rw[N9 c]⟩;have lF:dIn rp xn (key (nx b a)) (.dict (kvB key iDl V))=cz (.bool xn):=by rw[b4Q K,aV c];rfl
    walk_at "ev";rw[lF];walk_at "ev"
   ·have lF:dIn rp xn (key (nx b a)) (.dict (kvB key iDl V))=cz (.bool rp):=by rw[b4Q K,aZ c];rfl
    have BB:=b4R (W:=V) (c:=(nx b a,q++[(a:Int)])) (L:=L) (by lia);rw[aM c]at BB;refine⟨_,[s0,.none,.dict (kvB key iDl (dd1 V (nx b a,q++[(a:Int)]))),t_,kLs key (((dd1 V (nx b a,q++[(a:Int)])).drop L).map (·.1)),key b,.int a,key (nx b a)],rfl,?_,_,_,rfl⟩;have Ef:(((V.drop L).map (·.1)).map key).length<1000000:=by rw[af,af,gU];lia
    have qX:eI (F8 (e2 (a5A xn) (a4 2) (a4 5)) (x6 (a6 (a4 6) b8))) [s0,.none,.dict (kvB key iDl V),t_,kLs key ((V.drop L).map (·.1)),key b,.int a,key (nx b a)]=cz (iDl (q++[(a:Int)])):=by
     rw[a4J,a3u];walk_at "ev";rw[zQ,b4q (by rw[af];simp;lia)];show lIs (cz (.list (q.map .int++[.int a])))=_;rw[show q.map aP++[aP a]=(q++[(a:Int)]).map .int by rw[aT];rfl,b4H]
    walk_at "ev";rw[lF];walk_at "ev";rw[a8V (k:=key (nx b a)) (kvs:=kvB key iDl V) qX (by walk_at "ev") (by rfl) (K.ok _) (by rw[b7y];lia),b1U K c,<-F7 (W:=V) (c:=(nx b a,q++[(a:Int)])) c];walk_at "ev";rw[BB];unfold kLs;rw[aT];rfl)
 exact⟨x',y',g1⟩
def b7E[DecidableEq β](K:KeyB xn key)(hk:k<=5)(h0:P s)(hP:∀b a,P b->a<k->P (nx b a))(hg:∀b,P b->gm [key b]=cz (.list ((aw k).map λ(a:Nat)=>key (nx b a))))
  (hB:∀l:List β,l.Nodup->(∀b∈l,P b)->l.length<=B) (GN:B<=900):∃W:N6 β,N2 gm [key s]=cz (.dict (kvB key iDl W))/\AllB nx k s P W:=by
 have len:∀{dn W:N6 β},MetB nx k s P dn W->W.length<=B:=λ{dn W} h=>by
  have:=hB _ h.nodup λb hb=>by
   obtain⟨e,he,rfl⟩:=aG.mp hb;exact h.ok e he
  rwa[af]at this
 unfold N2;rw[c2H (by simp[VS.argsOk,K.im])];unfold a2d;have Eg:=K.ok s;walk_at "ev";rw[c4d (k:=key s) (d:=.list []) (by walk_at "ev") (by walk_at "ev") Eg];walk_at "ev";refine P5 (R:=λr=>∃W:N6 β,r=cz (.dict (kvB key iDl W))/\AllB nx k s P W) (λU=>∃W x y z u v,U=[key s,.none,.dict (kvB key iDl W),x,y,z,u,v]/\AllB nx k s P W) ?_ ?_
 ·rw[b7q];obtain⟨U',g1,W,x,y,z,u,v,rfl,hA⟩:=Y6 (c:=(tV (a4 3))) (g:=(f7 (i5 4 (x6 b8)) (f7 (y6 (iI (iL (a4 3))) (p6 5) (y6 (iI (iEn (eCl gm (a6 (a4 5) b8)))) (a2S 6 7) (sIf (tB (e2 (dIn rp xn) (a4 7) (a4 2))) (f7 (A9 2 xn (a4 7) (eI (F8 (e2 (a5A xn) (a4 2) (a4 5)) (x6 (a6 (a4 6) b8))))) (W1 4 (.l .i) y7 (a4 7))) E3))) (i5 3 (a4 4)))))
   (I:=λj U=>∃(dn nw W:N6 β) (y z u v:D),W=dn++nw/\MetB nx k s P dn W/\j<=dn.length/\U=[key s,.none,.dict (kvB key iDl W),kLs key (nw.map (·.1)),y,z,u,v])
   (Q:=λU=>∃W x y z u v,U=[key s,.none,.dict (kvB key iDl W),x,y,z,u,v]/\AllB nx k s P W) 900 (by
    rintro j U ⟨dn,nw,W,y,z,u,v,hW,hM,hj,rfl⟩;have GI:=len hM;have vD:dn.length<=W.length:=by rw[hW,av];lia
    refine⟨by lia,?_⟩;cases nw with
    |nil=>
     rw[aX]at hW;rw[<-hW]at hM;exact .inl ⟨by walk_at "ev";rfl,W,_,_,_,_,_,rfl,hM.all⟩
    |cons e0 nw=>
     refine .inr ⟨by walk_at "ev";rfl,?_⟩;obtain⟨U',g1,V,z',u',v',rfl,hV,vF⟩:=t9 (enc:=λ(e:β×List Int)=>key e.1) (set:=p6 5) (xs:=e0::nw) (g:=(y6 (iI (iEn (eCl gm (a6 (a4 5) b8)))) (a2S 6 7) (sIf (tB (e2 (dIn rp xn) (a4 7) (a4 2))) (f7 (A9 2 xn (a4 7) (eI (F8 (e2 (a5A xn) (a4 2) (a4 5)) (x6 (a6 (a4 6) b8))))) (W1 4 (.l .i) y7 (a4 7))) E3)))
      (U:=[key s,.none,.dict (kvB key iDl W),kLs key ((e0::nw).map (·.1)),.list [],z,u,v])
      (λpre U=>∃(V:N6 β) (z u v:D),U=[key s,.none,.dict (kvB key iDl V),kLs key ((e0::nw).map (·.1)),kLs key ((V.drop W.length).map (·.1)),z,u,v]/\(∃E,V=W++E)/\MetB nx k s P (dn++pre) V)
      ⟨W,z,u,v,by rw[iY];rfl,⟨[],by rw[aX]⟩,by rw[aX];exact hM⟩ (by
       rintro pre e post he U ⟨V,z,u,v,rfl,⟨E,hE⟩,vF⟩;obtain⟨b,q⟩:=e;have Bo:(b,q)∈W:=by rw[hW,he];simp
       have Bp:(b,q)∈V:=by rw[hE];exact ak _ Bo
       have hs:P b:=hM.ok _ Bo;have GJ:=len vF;have Br:q.length<=1000:=by
        have DA:q.length<=V.length:=vF.qlen Bp;lia
       have s_:MetB nx k s P ((dn++pre)++[(b,q)]) (dd V (L5 nx k (b,q))):=vF.step hP (nw:=post++E) (by rw[hE,hW,he];simp);obtain⟨x',y',g⟩:=b5a K (gm:=gm) (nx:=nx) hk Bp vF.nodup (L:=W.length) (by rw[hE,av];lia) (by lia) Br (key s) (kLs key ((e0::nw).map (·.1))) u v;refine⟨_,_,rfl,?_,dd V (L5 nx k (b,q)),key b,x',y',rfl,?_,by rw[<-aH];exact s_⟩
       ·have Eu:=hg b hs;walk_at "ev";rw[a0r (ds:=(aw k).map λ(a:Nat)=>dt [.int (a:Int),key (nx b a)]) (by rw[c0C (ds:=(aw k).map λ(a:Nat)=>key (nx b a)) (by walk_at "ev";exact Eu),a1e]) (l5 _ (λj=>by simp only[imm,c7,K.im,eK]) _)];walk_at "ev";exact g
       ·obtain⟨E2,Fd⟩:=a3G V (L5 nx k (b,q));exact⟨E++E2,by rw[Fd,hE,aH]⟩)
     obtain⟨E,hE⟩:=hV;refine⟨[key s,.none,.dict (kvB key iDl V),kLs key (E.map (·.1)),kLs key ((V.drop W.length).map (·.1)),z',u',v'],?_,dn++(e0::nw),E,V,_,_,_,_,by rw[hE,hW],vF,?_,rfl⟩
     ·walk_at "ev";rw[a0r (ds:=(e0::nw).map λe=>key e.1) (by walk_at "ev";rw[bC];rfl) (l5 _ (λ_=>K.im _) _)];walk_at "ev";refine b4p (λU=>U=[key s,.none,.dict (kvB key iDl V),kLs key ((e0::nw).map (·.1)),kLs key ((V.drop W.length).map (·.1)),z',u',v']) ⟨_,g1,rfl⟩ ?_;rintro U rfl;walk_at "ev";rw[hE,List.drop_left]
     ·rw[av,aS];lia) 1000000 0 [key s,.none,.dict [(key s,.list [])],.list [key s],.none,.none,.none,.none] ⟨[],WB s,WB s,_,_,_,_,rfl,c2G h0,az _,rfl⟩ (by lia)
  exact⟨_,g1,W,x,y,z,u,v,rfl,hA⟩
 ·rintro U ⟨W,x,y,z,u,v,rfl,hA⟩;walk_at "ev";exact⟨W,rfl,hA⟩
def a3L(z:α)(f:α->β)(l:List α):l.map f=(aw l.length).map λ(a:Nat)=>f (l.getD a z):=by
 refine iX (by simp) λi h1 h2=>?_
 have hi:i<l.length:=by simpa using h1
 simp[ah,ab hi]
def b5b:KeyB xn (λi:Int=>aP i):=⟨λa b=>a2B,λ_=>dKey_i,λ_=>Q9⟩
def AllMet.of(w:WF m k)(h:AllB (λs (a:Nat)=>(stp m s a).2) k 0 (λs=>0<=s/\s<(m.length:Int)) W):AllMet m k W:=⟨h.eq,h.sor,h.ok,h.ql⟩
def b0n(w:WF m k):∃W:M7,t5 [.list (m.map rwD)]=cz (.dict (kvD iDl W))/\AllMet m k W:=by
 have hle:=w.le;have yh:=w.k5;have qu:=w.pos;unfold t5;rw[A7 (by simp[VS.argsOk])];unfold U3;walk_at "ev";rw[c2I (ds:=[.int 0]) (by walk_at "ev")];obtain⟨W,h,hA⟩:=b7E (key:=λi:Int=>aP i) b5b (gm:=fnE [.i] ([0].map λj=>([.list (m.map rwD)]:List D).getD j .none) ((m6 (iI (iL (e2 dIx (a4 1) (a4 0)))) [] pt1 tT (e2 p5 (a4 0) (eC (.int 1)))))) (nx:=λs (a:Nat)=>(stp m s a).2) (k:=k) (by lia) (s:=0) (P:=λs=>0<=s/\s<(m.length:Int)) ⟨xS _,by lia⟩
  (λb a hb ha=>w.nx hb.1 hb.2 (a:=a) (by lia) (by lia))
  (λb hb=>by
   rw[c2J (by simp[VS.argsOk,imm])];have wD:=w.row hb.1 hb.2;show ((m6 (iI (iL (e2 dIx (a4 1) (a4 0)))) [] pt1 tT (e2 p5 (a4 0) (eC (.int 1))))) [.int b,.list (m.map rwD)]=_;rw[J7 (enc:=stD) (xs:=rowAt m b) (λp=>aP p.2) (a0r (by walk_at "ev";rw[a2s hb.1 hb.2];rfl) (l5 _ (λ_=>a1y) _)) (by lia) (λp _=>⟨[stD p],rfl,by unfold stD;walk_at "ev"⟩),<-wD,a3L (0,0) (λp:Int×Int=>aP p.2) (rowAt m b)];rfl) (B:=m.length) (λl hn hl=>nodup_range hn hl) (by lia)
 refine⟨W,?_,AllMet.of w hA⟩;rw[h];rfl
def a9d(w:WF m k):∃W:M7,Y3 [.list (m.map rwD)]=cz (iD (W.map (·.1)))/\AllMet m k W:=by
 obtain⟨W,h,hA⟩:=b0n w;refine⟨W,?_,hA⟩;unfold Y3;rw[A7 (by simp[VS.argsOk])];unfold a4M;walk_at "ev";rw[b7w (W:=W) (enc:=iDl) (by walk_at "ev";exact h)];walk_at "ev"
def at_list{ds:List D}{i:Int}{d:D}(h0:0<=i)(h:ds[i.toNat]?=cz d):L2.atI ds i=cz d:=by
 have hl:=(aD.mp h).1;unfold L2.atI;rw[a8L h0 (by lia)];exact h
def b1W{ns:List D}(g:Int->Int)(hn:∀p∈r,0<=p.2/\ns[p.2.toNat]?=cz (.int (g p.2)))(hl:r.length<=1000):j5 [rwD r,.list ns]=cz (rwD (r.map λp=>(p.1,g p.2))):=by
 unfold j5;rw[A7 (by simp[VS.argsOk])];unfold R9;rw[a9z,a3s (ds:=r.map stD) (λd=>match d with|.tuple [.int a,.int b]=>stD (a,g b)|_=>.none)]
 ·rw[bC];show cz (cA (r.map _))=_;unfold rwD;rw[bC];rfl
 ·exact a0r (by unfold rwD;walk_at "ev") (l5 _ (λ_=>a1y) r)
 ·rw[af];lia
 ·intro d hd;obtain⟨p,hp,rfl⟩:=aG.mp hd;have:=hn p hp;refine⟨[.int p.1,.int p.2],rfl,?_⟩;show a0F _ [.int p.1,.int p.2,.list ns]=cz (stD (p.1,g p.2));walk_at "ev";rw[at_list this.1 this.2];walk_at "ev";rfl
abbrev cN(m:g9)(N:Nat):Int->Int:=λs=>(lvl m N).getD s.toNat 0
def b1X{m:g9}(hr:∀s∈r,0<=s/\s<(m.length:Int))(hl:r.length<=1000):w9 [iD r,iD (lvl m N)]=cz (iD (fs (cN m N) r)):=by
 have zL:=T0 m N;unfold w9;rw[A7 (by simp[VS.argsOk])];unfold L3;walk_at "ev";rw[a0r (ds:=r.map aP) (by walk_at "ev") (l5 _ (λ_=>Q9) _)];walk_at "ev";refine C0 (λU=>∃x,U=[iD r,iD (lvl m N),.dict (kvD aP (fc (cN m N) r)),x]) ?_ ?_
 ·obtain⟨U',g1,x,rfl⟩:=t9 (enc:=aP) (set:=p6 3) (xs:=r) (g:=(b3q (U2 2 xn (e2 p5 (a4 1) (a4 3)) (a4 3)))) (U:=[iD r,iD (lvl m N),.dict [],.none])
   (λpre U=>∃x,U=[iD r,iD (lvl m N),.dict (kvD aP (dd [] (pre.map λs=>(cN m N s,s)))),x]) ⟨_,rfl⟩ (by
    rintro pre s post e U ⟨x,rfl⟩;have hs:=hr s (by rw[e];simp);have hlen:=a8S (W:=[]) (pre.map λs=>(cN m N s,s));have gK:pre.length<=1000:=by have:=dG dQ e;simp at this;lia
    rw[af,eS]at hlen;refine⟨_,[iD r,iD (lvl m N),.dict (kvD aP (dd [] ((pre++[s]).map λs=>(cN m N s,s)))),.int s],rfl,?_,_,rfl⟩;rw[c2F (k:=.int (cN m N s)) (e:=.int s) (kvs:=kvD aP (dd [] (pre.map λs=>(cN m N s,s)))) (by walk_at "ev";rw[P9 hs.1 (by lia)];walk_at "ev") (by walk_at "ev") (by rfl) dKey_i (by rw[b0i];lia) rfl,b7u (enc:=aP),aT,cm,N5];rfl)
  exact⟨_,g1,x,rfl⟩
 ·rintro U ⟨x,rfl⟩;walk_at "ev";rw[b7x (W:=fc (cN m N) r) (by walk_at "ev")];walk_at "ev";rfl
def plc(c:Int->Int)(F:List Int)(j:Nat):List (Int×Int):=(aw j).map λ(i:Nat)=>(c (F.getD i 0),(i:Int))
def b5c(c:Int->Int)(F:List Int)(j:Nat):plc c F (j+1)=plc c F j++[(c (F.getD j 0),(j:Int))]:=by
 unfold plc;rw[ic,aT];rfl
def T7{l:List Int}(h:l[i]?=cz x):l.getD i 0=x:=by rw[ah,h];rfl
def b5d:(plc c (fs c r) (fs c r).length).map (·.1)=cl c r:=by
 rw[c0F];unfold plc;rw[bC];refine iX (by simp) λi h1 h2=>?_
 have hi:i<(fs c r).length:=by simpa using h1
 simp only[dE,nO,Function.comp];rw[ah,ab hi];rfl
def b5e(w:WF m k):∃(N:Nat) (W:M7),AllMet m k W/\(∀s t:Int,0<=s->s<m.length->0<=t->t<m.length->lv m N s=lv m N t->lv m (N+1) s=lv m (N+1) t)/\
  S6 [.list (m.map rwD)]=cz (.list ((m8 m (cN m N) (W.map (·.1))).map rwD)):=by
 have hle:=w.le;have yh:=w.k5;obtain⟨N,h1,_,_,hN⟩:=a4U w;obtain⟨W,h2,hA⟩:=a9d w;refine⟨N,W,hA,hN,?_⟩;have R:=hA.rch;have h3:=b1X (m:=m) (N:=N) R.range (by have:=R.len;lia);have zL:=T0 m N;generalize W.map (·.1)=r at h2 R h3;have wD:=R.len;have hfl:=a9a (c:=cN m N) (r:=r);unfold S6;rw[A7 (by simp[VS.argsOk])];unfold a9S;walk_at "ev";rw[h1];walk_at "ev";rw[a6b (f:=λd=>iD (lvl m d))];walk_at "ev";rw[h2];walk_at "ev";rw[h3];walk_at "ev";rw[a0r (ds:=(aw (fs (cN m N) r).length).map λ(s:Nat)=>dt [.int ((0+s:Nat):Int),.int ((fs (cN m N) r).getD s 0)]) (by rw[c0C (ds:=(fs (cN m N) r).map .int) (by rfl),a2k]) (l5 _ (λs=>by simp only[imm,c7,eK]) _)];walk_at "ev";have yo:=X0 (c:=cN m N) (r:=r);refine C0 (λU=>∃x y,U=[.list (m.map rwD),iD (lvl m N),iD (fs (cN m N) r),.dict (kvD aP (plc (cN m N) (fs (cN m N) r) (fs (cN m N) r).length)),x,y,.none]) ?_ ?_
 ·obtain⟨U',g1,x,y,rfl⟩:=t9 (enc:=λ(s:Nat)=>dt [.int ((0+s:Nat):Int),.int ((fs (cN m N) r).getD s 0)]) (set:=a2S 4 5) (xs:=aw (fs (cN m N) r).length) (g:=(A9 3 xn (e2 p5 (a4 1) (a4 5)) (a4 4)))
   (U:=[.list (m.map rwD),iD (lvl m N),iD (fs (cN m N) r),.dict [],.none,.none,.none])
   (λpre U=>∃x y,U=[.list (m.map rwD),iD (lvl m N),iD (fs (cN m N) r),.dict (kvD aP (plc (cN m N) (fs (cN m N) r) pre.length)),x,y,.none]) ⟨_,_,rfl⟩ (by
    rintro pre j post e U ⟨x,y,rfl⟩;obtain⟨ej,hj,_⟩:=W5 e;obtain⟨f,f1,f2,f3⟩:=a1d (c:=cN m N) (r:=r) j hj;have nU:=R.range f f2;have yl:=T7 f1;refine⟨_,[.list (m.map rwD),iD (lvl m N),iD (fs (cN m N) r),.dict (kvD aP (plc (cN m N) (fs (cN m N) r) (pre++[j]).length)),.int ((0+j:Nat):Int),.int ((fs (cN m N) r).getD j 0),.none],rfl,?_,_,_,rfl⟩;have zG:cN m N f∉(plc (cN m N) (fs (cN m N) r) pre.length).map (·.1):=by
     intro lF;obtain⟨q,hq,e2⟩:=aG.mp lF;obtain⟨i,hi,rfl⟩:=aG.mp hq;have lG:=bu.mp hi;obtain⟨f',Fl,_,BR⟩:=a1d (c:=cN m N) (r:=r) i (by lia);rw[T7 Fl]at e2;have e3:cN m N f'=cN m N f:=e2;rw[e3]at BR;have:i=j:=(iC (by rw[a1H];lia) yo).mp (BR.trans f3.symm);lia
    rw[a8V (k:=.int (cN m N f)) (d:=.int ((0+j:Nat):Int)) (kvs:=kvD aP (plc (cN m N) (fs (cN m N) r) pre.length)) (by walk_at "ev") (by walk_at "ev";rw[yl,P9 nU.1 (by lia)];walk_at "ev") (by rfl) dKey_i (by rw[b0i];unfold plc;rw[af,bB];lia),b4N (enc:=aP) (x:=((0+j:Nat):Int)) zG,av,bZ,b5c,<-ej,yl,iz];rfl)
  rw[bB]at g1;exact⟨_,g1,x,y,rfl⟩
 ·rintro U ⟨x,y,rfl⟩;walk_at "ev";have Bs:=b5d (c:=cN m N) (r:=r);have uA:(m6 (iI (iL (a4 1))) [3] pt1 tT (e2 (a3a xn) (a4 1) (a4 0))) [.list (m.map rwD),iD (lvl m N),iD (fs (cN m N) r),.dict (kvD aP (plc (cN m N) (fs (cN m N) r) (fs (cN m N) r).length)),x,y,.none]=cz (.list ((lvl m N).map λz=>if z∈cl (cN m N) r then .int ((cl (cN m N) r).idxOf z:Nat) else .none)):=by
   refine J7 (enc:=aP) (xs:=lvl m N) (λz=>if z∈cl (cN m N) r then .int ((cl (cN m N) r).idxOf z:Nat) else .none) (a0r (by walk_at "ev") (l5 _ (λ_=>Q9) _)) (by lia) λz hz=>⟨[.int z],rfl,?_⟩
   show e2 (a3a xn) (a4 1) (a4 0) [.int z,.dict (kvD aP (plc (cN m N) (fs (cN m N) r) (fs (cN m N) r).length))]=_;walk_at "ev";by_cases hc:z∈cl (cN m N) r
   ·rw[aE hc];have hi:=b_.mpr hc;have lG:(cl (cN m N) r).idxOf z<(fs (cN m N) r).length:=by rw[<-a1H];exact hi
    obtain⟨f,f1,_,f3⟩:=a1d (c:=cN m N) (r:=r) _ lG;refine b7v (enc:=aP) (x:=((cl (cN m N) r).idxOf z:Nat)) (by rw[Bs];exact yo) (aG.mpr ⟨(cl (cN m N) r).idxOf z,bu.mpr lG,?_⟩);rw[T7 f1];have h5:=ab hi;rw[dY hi,f3]at h5;rw[aF h5]
   ·rw[aM hc];exact a8U (by rw[Bs];exact hc)
  rw[uA];walk_at "ev";have zX:(m6 (iI (iL (a4 2))) [0,6] pt1 tT (eCl j5 (a6 (e2 dIx (a4 1) (a4 0)) (a6 (a4 2) b8)))) [.list (m.map rwD),iD (lvl m N),iD (fs (cN m N) r),.dict (kvD aP (plc (cN m N) (fs (cN m N) r) (fs (cN m N) r).length)),x,y,.list ((lvl m N).map λz=>if z∈cl (cN m N) r then .int ((cl (cN m N) r).idxOf z:Nat) else .none)]=cz (.list ((fs (cN m N) r).map λf=>rwD ((rowAt m f).map λp=>(p.1,(pls (cN m N) r p.2:Int))))):=by
   refine J7 (U:=[.list (m.map rwD),iD (lvl m N),iD (fs (cN m N) r),.dict (kvD aP (plc (cN m N) (fs (cN m N) r) (fs (cN m N) r).length)),x,y,.list ((lvl m N).map λz=>if z∈cl (cN m N) r then aP ((cl (cN m N) r).idxOf z:Nat) else .none)]) (fi:=iI (iL (a4 2))) (js:=[0,6]) (pt:=pt1) (g:=(eCl j5 (a6 (e2 dIx (a4 1) (a4 0)) (a6 (a4 2) b8)))) (enc:=aP) (xs:=fs (cN m N) r) (λf=>rwD ((rowAt m f).map λp=>(p.1,(pls (cN m N) r p.2:Int)))) (a0r (by walk_at "ev") (l5 _ (λ_=>Q9) _)) (by lia) λf hf=>⟨[.int f],rfl,?_⟩
   have nU:f∈r:=by
    obtain⟨e,he,rfl⟩:=aG.mp hf;exact (a0t he).1
   have rZ:=R.range f nU;show eCl j5 _ [.int f,.list (m.map rwD),.list ((lvl m N).map λz=>if z∈cl (cN m N) r then aP ((cl (cN m N) r).idxOf z:Nat) else .none)]=_;walk_at "ev";rw[a2s rZ.1 rZ.2];walk_at "ev";refine b1W (λs=>(pls (cN m N) r s:Int)) (λp hp=>?_) (by rw[w.row rZ.1 rZ.2];lia);obtain⟨j,hj⟩:=cW.mp hp;have qB:=(aD.mp hj).1;rw[w.row rZ.1 rZ.2]at qB;have hs:stp m f (j:Nat)=p:=by
    unfold stp;rw[bH,ah,hj];rfl
   have h6:=R.next nU (a:=(j:Nat)) (by lia) (by lia);rw[hs]at h6;have h7:=R.range _ h6;refine⟨h7.1,?_⟩;rw[aQ,ab (by lia)];have h8:(lvl m N)[p.2.toNat]'(by lia)=cN m N p.2:=by
    show _=(lvl m N).getD p.2.toNat 0;rw[ah,ab (by lia)];rfl
   show cz (if (lvl m N)[p.2.toNat]'(by lia)∈cl (cN m N) r then aP ((cl (cN m N) r).idxOf ((lvl m N)[p.2.toNat]'(by lia)):Nat) else .none)=_;rw[h8,aE (a1G h6)];rfl
  rw[zX];walk_at "ev";unfold m8;rw[bC];rfl
end Prog
namespace VS
open L2
def nxs(L:g9)(k:Nat)(i:Nat):List Int:=(aw k).map λ(a:Nat)=>(stp L (i:Nat) a).2
def ofR(c:Nat):List Int:=(aw c).map λ(i:Nat)=>(i:Int)
def Sim(k:Nat)(L M:g9)(i j:Int):Prop:=∀p:List Int,(∀a∈p,0<=a/\a<(k:Int))->(i6 L i p).1=(i6 M j p).1
structure Can (L:g9) (k:Nat):Prop where
 wf:WF L k
 all:dkk [0] ((aw L.length).flatMap (nxs L k))=ofR L.length
 lead:∀j,j<L.length->j<(dkk [0] ((aw j).flatMap (nxs L k))).length
 apart:∀i j:Nat,i<L.length->j<L.length->Sim k L L i j->i=j
def Sim.step{k:Nat}{L M:g9}{i j:Int}(h:Sim k L M i j){a:Int}(h0:0<=a)(h1:a<k):(stp L i a).1=(stp M j a).1/\Sim k L M (stp L i a).2 (stp M j a).2:=by
 constructor
 ·have:=h [a] (λb hb=>by rw[aq.mp hb];exact⟨h0,h1⟩);simpa[i6]using this
 ·intro p hp;have:=h (a::p) (λb hb=>by
   rcases aN.mp hb with z|z
   ·rw[z];exact⟨h0,h1⟩
   ·exact hp b z)
  simp only[i6]at this;exact (sT this).2
def b7F:x∈ofR c↔0<=x/\x<(c:Int):=by
 unfold ofR;rw[aG]
 constructor
 ·rintro⟨i,hi,rfl⟩;have:=bu.mp hi;lia
 ·rintro⟨h0,h1⟩;exact⟨x.toNat,bu.mpr (by lia),by lia⟩
def b0o(c:Nat):(ofR c).length=c:=by unfold ofR;simp
def b5f(c j:Nat)(h:j<=c):(ofR c).take j=ofR j:=by
 unfold ofR;rw[<-nu,qH,l_ h]
def b7G(h:j<c):(ofR c)[j]?=cz (j:Int):=by
 unfold ofR;rw[aQ,eY h];rfl
def Can.pre(C:Can L k)(h:(aw L.length).flatMap (nxs L k)=Zq++yn):dkk [0] Zq=ofR (dkk [0] Zq).length:=by
 have h1:=C.all;rw[h,T6]at h1;obtain⟨E,e⟩:=a2D (dkk [0] Zq) yn;rw[e]at h1;have h2:=dG dQ h1;rw[av,b0o]at h2;have h3:=dG (List.take (dkk [0] Zq).length) h1;rw[List.take_left,b5f _ _ (by lia)]at h3;exact h3
def a4V(h:j<n):aw n=aw j++j::(aw (n-j-1)).map (λi=>j+1+i):=by
 have:n=j+(1+(n-j-1)):=by lia
 conv=>lhs;rw[this]
 rw[List.range_add,List.range_add,aT]
 congr 1;show _=[j]++_
 congr 1;rw[bC];refine bW λi _=>?_
 show j+(1+i)=j+1+i;lia
def b5g(K:List Int):∀(L:List Int),(∀x∈K++L,∀y∈K++L,f x=f y->x=y)->dkk (K.map f) (L.map f)=(dkk K L).map f:=by
 intro L
 induction L using snoc_ind with
 |h0=>intro _;rfl
 |h1 L x ih=>
  intro h;have ih:=ih λa ha b hb=>h a (by rw[<-aH];exact ak _ ha) b (by rw[<-aH];exact ak _ hb)
  rw[aT,cm,B7,B7,ih];by_cases c:x∈dkk K L
  ·rw[T4 c,T4 (cY c)]
  ·have hn:f x∉(dkk K L).map f:=λhm=>by
    obtain⟨y,hy,e⟩:=aG.mp hm;have Df:y∈K++(L++[x]):=by
     rcases (J8 K L).mp hy with z|z
     ·exact ak _ z
     ·exact aj _ (ak _ z)
    have:=h y Df x (by simp) e;exact c (this▸hy)
   rw[T5 c,T5 hn,aT];rfl
section
variable {m:g9}{k:Nat}{c:Int->Int}{r:List Int}
def b1Y(w:WF m k)(jy:∀s:Int,0<=s->s<m.length->(rowAt m s).length=k)(R:Rch m k r){i:Nat}{f:Int}(h:(fs c r)[i]?=cz f)(hf:f∈r):nxs (m8 m c r) k i=(csu m k c f).map λx=>((cl c r).idxOf x:Int):=by
 unfold nxs csu;rw[bC];refine bW λa ha=>?_
 have hr:=R.range f hf;have:=bu.mp ha;rw[a3J w jy h hr.1 hr.2 (by lia) (by lia)];rfl
theorem a3M(w:WF m k)(jy:∀s:Int,0<=s->s<m.length->(rowAt m s).length=k)(R:Rch m k r):∀j,j<=(fs c r).length->(aw j).flatMap (nxs (m8 m c r) k)=(((fs c r).take j).flatMap (csu m k c)).map λx=>((cl c r).idxOf x:Int)
 |0,_=>by simp
 |j+1,h=>by
  obtain⟨f,f1,f2,f3⟩:=a1d (c:=c) (r:=r) j (by lia);rw[ic,bX,a3M w jy R j (by lia),List.take_add_one,f1,bX,aT]
  congr 1;show [j].flatMap _=([f].flatMap _).map _;rw[dr,gW,aX,dr,gW,aX,b1Y w jy R f1 f2]
def b1Z(w:WF m k)(jy:∀s:Int,0<=s->s<m.length->(rowAt m s).length=k)(C:a6c m k c)(R:Rch m k r)(sF:∀i j:Nat,i<(m8 m c r).length->j<(m8 m c r).length->Sim k (m8 m c r) (m8 m c r) i j->i=j):Can (m8 m c r) k:=by
 have hL:(m8 m c r).length=(fs c r).length:=E8;have hz:=a7s (c:=c) R;have nq:([0]:List Int)=[c 0].map λx=>((cl c r).idxOf x:Int):=by
  show [(0:Int)]=[((pls c r 0:Nat):Int)];rw[hz];rfl
 have iN:∀j,∀x∈[c 0]++((fs c r).take j).flatMap (csu m k c),x∈cl c r:=λj x hx=>by
  rw[a6d C R];refine (J8 _ _).mpr ?_;rcases ay.mp hx with z|z
  ·exact .inl z
  ·obtain⟨f,hf,hx⟩:=cx.mp z;exact .inr (cx.mpr ⟨f,List.mem_of_mem_take hf,hx⟩)
 have hd:∀j,j<=(fs c r).length->dkk [0] ((aw j).flatMap (nxs (m8 m c r) k))=(dkk [c 0] (((fs c r).take j).flatMap (csu m k c))).map λx=>((cl c r).idxOf x:Int):=λj hj=>by
  rw[a3M w jy R j hj,nq];exact b5g _ _ λx hx y hy e=>b4X (iN j x hx) (iN j y hy) (by lia)
 refine⟨a1I w R,?_,λj hj=>?_,sF⟩
 ·rw[hL,hd _ (az _),FQ,<-a6d C R];refine iX (by rw[af,b0o,a1H]) λi i1 i2=>?_
  have hi:i<(cl c r).length:=by simpa using i1
  rw[dE];have h2:=b7G (c:=(fs c r).length) (j:=i) (by rw[<-a1H];exact hi);rw[ab i2]at h2;rw[aF h2];have hj:(cl c r).idxOf (cl c r)[i]<(cl c r).length:=b_.mpr (dh hi);have h3:(cl c r)[(cl c r).idxOf (cl c r)[i]]?=(cl c r)[i]?:=by rw[ab hj,dY hj,ab hi]
  have:=(iC hj X0).mp h3;lia
 ·rw[hL]at hj;rw[hd j (by lia),af];exact b7D C R hj
end
end VS
namespace Prog
open L2 VS
def b7H(w:WF m k)(hN:∀s t:Int,0<=s->s<m.length->0<=t->t<m.length->lv m N s=lv m N t->lv m (N+1) s=lv m (N+1) t):a6c m k (cN m N):=by
 intro s t s0 s1 t0 t1 e a a0 a1;have h:=(J6 w s0 s1 t0 t1).mp (hN s t s0 s1 t0 t1 e);exact h a a0 a1
theorem b5h{L:g9}{k:Nat}(w:WF L k):∀(d:Nat) {i j:Int},0<=i->i<L.length->0<=j->j<L.length->Sim k L L i j->lv L d i=lv L d j
 |0,i,j,_,_,_,_,_=>by rw[x8,x8]
 |d+1,i,j,i0,i1,j0,j1,h=>by
  refine (J6 w i0 i1 j0 j1).mpr λa a0 a1=>?_
  obtain⟨h1,h2⟩:=h.step a0 a1;have n1:=w.nx i0 i1 a0 a1;have n2:=w.nx j0 j1 a0 a1;exact⟨h1,b5h w d n1.1 n1.2 n2.1 n2.2 h2⟩
theorem a2m{m:g9}{k:Nat}(w:WF m k){c:Int->Int}{r:List Int}(C:a6c m k c)(R:Rch m k r):∀(d:Nat) {s t:Int},s∈r->t∈r->lv (m8 m c r) d (pls c r s:Int)=lv (m8 m c r) d (pls c r t:Int)->lv m d s=lv m d t
 |0,s,t,_,_,_=>by rw[x8,x8]
 |d+1,s,t,hs,ht,h=>by
  have wL:=a1I (c:=c) w R;have jy:∀s:Int,0<=s->s<m.length->(rowAt m s).length=k:=λs h0 h1=>w.row h0 h1
  have s1:=R.range s hs;have t1:=R.range t ht;have p1:=a3I (c:=c) hs;have p2:=a3I (c:=c) ht;rw[<-E8 (m:=m)]at p1 p2;refine (J6 w s1.1 s1.2 t1.1 t1.2).mpr λa a0 a1=>?_
  obtain⟨h1,h2⟩:=(J6 wL (by lia) (by lia) (by lia) (by lia)).mp h a a0 a1;rw[X1 w jy C R hs a0 a1,X1 w jy C R ht a0 a1]at h1 h2;exact⟨h1,a2m w C R d (R.next hs a0 a1) (R.next ht a0 a1) h2⟩
def b2a(w:WF m k):∃L:g9,S6 [.list (m.map rwD)]=cz (.list (L.map rwD))/\Can L k/\Sim k L m 0 0/\L.length<=m.length:=by
 obtain⟨N,W,hA,hN,zJ⟩:=b5e w;have R:=hA.rch;have hC:=b7H w hN;have wL:=a1I (c:=cN m N) w R;have jy:∀s:Int,0<=s->s<m.length->(rowAt m s).length=k:=λs h0 h1=>w.row h0 h1
 have hlen:(m8 m (cN m N) (W.map (·.1))).length=(fs (cN m N) (W.map (·.1))).length:=E8;refine⟨_,zJ,b1Z w jy hC R λi j hi hj hs=>?_,λp hp=>?_,?_⟩
 ·obtain⟨f,f1,f2,f3⟩:=a1d (c:=cN m N) (r:=W.map (·.1)) i (by lia);obtain⟨g,g1,g2,g3⟩:=a1d (c:=cN m N) (r:=W.map (·.1)) j (by lia);have e2:lv (m8 m (cN m N) (W.map (·.1))) N (pls (cN m N) (W.map (·.1)) f:Int)=lv (m8 m (cN m N) (W.map (·.1))) N (pls (cN m N) (W.map (·.1)) g:Int):=by
   rw[b4Z f1,b4Z g1];exact b5h wL N (by lia) (by lia) (by lia) (by lia) hs
  have e4:cN m N f=cN m N g:=a2m w hC R N f2 g2 e2;rw[e4]at f3;exact (iC (by rw[a1H];lia) X0).mp (f3.trans g3.symm)
 ·have:=a2l w jy hC R p R.zero hp;rw[a7s R,show ((0:Nat):Int)=0 from rfl]at this;rw[this]
 ·rw[hlen];have h1:(fs (cN m N) (W.map (·.1))).length<=(W.map (·.1)).length:=a9a;have h2:=R.len;lia
end Prog
namespace VS
open L2
def wyD(W:M7)(s:Nat):D:=(w6 (kvD (λns:List Int=>cA (ns.map .int)) W) (.int s)).getD .none
def c0H{W:M7}(hn:(W.map (·.1)).Nodup){s:Nat}{p:List Int}(h:((s:Int),p)∈W):wyD W s=.list (p.map .int):=by
 unfold wyD;rw[b0k hn h];rfl
def a1J(W:M7)(n:Nat):List D:=(aw n).map (wyD W)
def b7I{W:M7}{n:Nat}{s:Int}(h0:0<=s)(h1:s<n):L2.atI (a1J W n) s=cz (wyD W s.toNat):=by
 unfold L2.atI a1J;rw[af,bB,a8L h0 h1];show ((aw n).map (wyD W))[s.toNat]?=_;rw[aQ,eY (by lia)];rfl
end VS
namespace Prog
open L2 VS
def b5i(w:WF m k)(h:t5 [.list (m.map rwD)]=cz (.dict (kvD iDl W))):S7 [.list (m.map rwD)]=cz (.list (a1J W m.length)):=by
 have hle:=w.le;unfold S7;rw[A7 (by simp[VS.argsOk])];unfold b4t;walk_at "ev";rw[h];walk_at "ev";have hk:keysOk xn (kvD iDl W)=rp:=by
  unfold keysOk kvD;rw[List.all_map,dP];intro p _;rfl
 have hd:m6 (iR (eCl z0 (a6 (a4 0) b8))) [1] pt1 tT (e2 (a9D xn) (a4 1) (a4 0)) [.list (m.map rwD),.dict (kvD iDl W)]=cz (.list (a1J W m.length)):=by
  rw[a2A (n:=m.length) (wyD W) (by walk_at "ev") (by lia) (by lia),bH]
  ·rfl
  ·intro s hs;show (if n6 xn (.int s)&&keysOk xn (kvD iDl W) then cz ((w6 (kvD iDl W) (.int s)).getD .none) else p4)=_;rw[hk];rfl
 rw[hd];walk_at "ev"
def b7J(w:WF m k):∃W:M7,AllMet m k W/\S7 [.list (m.map rwD)]=cz (.list (a1J W m.length)):=by
 obtain⟨W,h,hA⟩:=b0n w;exact⟨W,hA,b5i w h⟩
abbrev GA:=List (List Int×List Int)
def r0(a:List Int):D:=.tuple (a.map .int)
def a7t(a b:List Int):aR (r0 a) (r0 b)=decide (a=b):=by
 unfold r0;simp only[aR];exact a3t a b
theorem a2n:∀a:List Int,n9 (a.map aP)=rp
 |[]=>by simp only[cX,n9]
 |n::a=>by simp only[aB,n9,A1,a2n a,eK]
def a9e(a:List Int):(r0 a).depth<=7:=by
 unfold r0;simp only[fI];have:=Y1 aP 0 (λ_=>by rw[a1x];exact az _) a;lia
def b2b(a:List Int):A1 (r0 a)=rp:=by
 unfold r0;simp only[A1];exact a2n a
def a4W(a:List Int):n6 rp (r0 a)=rp:=by
 unfold n6;rw[b2b,aV (a9e a)];rfl
def dKey_i(e:Int):n6 xn (.int e)=rp:=by
 unfold n6;rw[show A1 (.int e)=rp by simp only[A1],show (aP e).depth=0 from a1x];rfl
structure DdOk (f:Int->List Int×Int) (ss:List Int) (dd:GA):Prop where
 nd:(dd.map (·.1)).Nodup
 keys:∀a,a∈dd.map (·.1)↔∃s∈ss,(f s).1=a
 mem:∀q∈dd,∀e,e∈q.2↔∃s∈ss,f s=(q.1,e)
 nd2:∀q∈dd,q.2.Nodup
 len:dd.length<=ss.length
 c0a:∀q∈dd,q.2.length<=ss.length
theorem a0u:∀as:List (List Int),a4H rp (as.map r0)=cz as
 |[]=>rfl
 |a::as=>by
  have h:intsOf (a.map aP)=cz a:=by
   induction a with
   |nil=>rfl
   |cons n a ih=>rw[aB];show (intsOf (a.map aP)).map (n::·)=_;rw[ih];rfl
  rw[aB];show (intsOf (a.map aP)).bind _=_;rw[h,eF,a0u as];rfl
end Prog
namespace VS
open L2
def c2K(hf:f U=cz (.int n))(h:U.getD i .none=.int k):b3t i f U=cz (.nx (U.set i (.int (k+n)))):=by
 unfold b3t;rw[hf,h];rfl
def mny(m:g9)(D:Nat)(s t:Int):Nat:=(aw (D+1)).countP λd=>decide (lv m d s=lv m d t)
def U6(m:g9)(D:Nat)(s t:Int):bw:=if mny m D s t=D+1 then .none else .list ((fu m (mny m D s t) s t).map .int)
def a3N{m:g9}{k:Nat}(w:WF m k)(D:Nat){s t:Int}(h0:0<=s)(h1:s<m.length)(h2:0<=t)(h3:t<m.length):1<=mny m D s t/\mny m D s t<=D+1/\(∀d<mny m D s t,lv m d s=lv m d t)/\∀d,mny m D s t<=d->d<=D->lv m d s≠lv m d t:=by
 obtain⟨c,e,c1,c2,c3⟩:=a3E (p:=λd=>decide (lv m d s=lv m d t)) (λd hd=>aV (a5W w d h0 h1 h2 h3 (bG hd))) (D+1);have e':mny m D s t=c:=e;rw[e'];refine⟨?_,c1,λd hd=>bG (c2 d hd),λd hd jO=>jR (c3 d hd (by lia))⟩;rcases bK 0 c with z|z
 ·exact z
 ·have:=jR (c3 0 (by lia) (by lia));exact absurd (by rw[x8,x8]) this
end VS
namespace Prog
open L2 VS
def a9f{r r':Ky}(hl:r.length=r'.length)(i_:r≠r')(h5:r.length<=1000):t6 [rwD r,rwD r']=cz (.int (fp r r':Nat)):=by
 unfold t6;rw[A7 (by simp[VS.argsOk])];unfold U4;walk_at "ev";rw[b7q];obtain⟨f1,f2,f3⟩:=a5X hl i_;obtain⟨U',h1,rfl⟩:=Y6 (c:=tB (e2 dEq (e2 p5 (a4 0) (a4 2)) (e2 p5 (a4 1) (a4 2)))) (g:=b3t 2 (eC (.int 1)))
  (I:=λj U=>U=[rwD r,rwD r',.int (j:Nat)]/\j<=fp r r') (Q:=λU=>U=[rwD r,rwD r',.int (fp r r':Nat)]) 1000
  (by
   rintro j U ⟨rfl,hj⟩;refine⟨by lia,?_⟩;have hc:tB (e2 dEq (e2 p5 (a4 0) (a4 2)) (e2 p5 (a4 1) (a4 2))) [rwD r,rwD r',.int (j:Nat)]=cz (decide (r.getD j (0,0)=r'.getD j (0,0))):=by
    walk_at "ev";rw[b1N (by lia) (by lia),b1N (by lia) (by lia)];walk_at "ev";rw[c0B];walk_at "ev";rw[bH]
   rw[hc];rcases bK j (fp r r') with z|z
   ·refine .inr ⟨by rw[aV (f3 j z)],[rwD r,rwD r',.int ((j+1:Nat):Int)],?_,rfl,z⟩;rw[c2K (n:=1) (k:=(j:Nat)) rfl rfl];rfl
   ·have e:j=fp r r':=by lia
    subst e;exact .inl ⟨by rw[aZ f2],rfl⟩) 1000000 0 [rwD r,rwD r',.int 0] ⟨rfl,bL _⟩ (by lia)
 rw[h1];walk_at "ev"
theorem a2o(w:WF m k)(vc mn:D):∀(c:Nat) (s t:Int) (p:List Int) (x y:D),0<=s->s<m.length->0<=t->t<m.length->(c≠0->lv m c s≠lv m c t)->lv m (c-1) s=lv m (c-1) t->p.length+c<1000000->
  ∃s' t' x' y',U7 (p6 6) (f7 (i5 7 (eCl t6 (a6 (eCl j5 (a6 (e2 dIx (a4 0) (a4 2)) (a6 (a4 6) b8))) (a6 (eCl j5 (a6 (e2 dIx (a4 0) (a4 3)) (a6 (a4 6) b8))) b8)))) (f7 (W1 5 (.l .i) y7 (a4 7)) (f7 (i5 2 (e2 p5 (e2 p5 (e2 dIx (a4 0) (a4 2)) (a4 7)) (eC (.int 1)))) (i5 3 (e2 p5 (e2 p5 (e2 dIx (a4 0) (a4 3)) (a4 7)) (eC (.int 1)))))))
   ((aw c).map λd=>iD (lvl m d)).reverse [.list (m.map rwD),vc,.int s,.int t,mn,iD p,x,y]=cz (.nx [.list (m.map rwD),vc,.int s',.int t',mn,iD (p++fu m c s t),x',y'])
 |0,s,t,p,x,y,_,_,_,_,_,_,_=>by
  refine⟨s,t,x,y,?_⟩;show cz _=cz _;rw[show fu m 0 s t=[] from rfl,aX]
 |c+1,s,t,p,x,y,h0,h1,h2,h3,i_,heq,hlen=>by
  rw[ic,aT,yG];have wI:=i_ (by lia);obtain⟨⟨a0,a1⟩,f2,_⟩:=b0a w h0 h1 h2 h3 wI;have n1:=w.nx h0 h1 a0 a1;have n2:=w.nx h2 h3 a0 a1;have l1:=w.row h0 h1;have l2:=w.row h2 h3;have yh:=w.k5;have DJ:c≠0->lv m c (stp m s (fa m c s t)).2≠lv m c (stp m t (fa m c s t)).2:=λhc=>by
   obtain⟨c',rfl⟩:∃c',c=c'+1:=⟨c-1,by lia⟩;have:=(J6 w h0 h1 h2 h3).mp heq _ a0 a1;exact f2.resolve_left (λz=>z this.1)
  have DK:lv m (c-1) (stp m s (fa m c s t)).2=lv m (c-1) (stp m t (fa m c s t)).2:=by
   cases c with
   |zero=>rw[x8,x8]
   |succ c'=>exact ((J6 w h0 h1 h2 h3).mp heq _ a0 a1).2
  obtain⟨s',t',x',y',ih⟩:=a2o w vc mn c (stp m s (fa m c s t)).2 (stp m t (fa m c s t)).2 (p++[fa m c s t]) (iD (lvl m c)) (.int (fa m c s t)) n1.1 n1.2 n2.1 n2.2 DJ DK (by rw[av];simp only[bZ];lia);refine⟨s',t',x',y',?_⟩;show (p6 6 _ (iD (lvl m c))).bind _=_;show Option.bind (f7 _ _ [.list (m.map rwD),vc,.int s,.int t,mn,iD p,iD (lvl m c),y]) _=_;have hb:f7 (i5 7 (eCl t6 (a6 (eCl j5 (a6 (e2 dIx (a4 0) (a4 2)) (a6 (a4 6) b8))) (a6 (eCl j5 (a6 (e2 dIx (a4 0) (a4 3)) (a6 (a4 6) b8))) b8)))) (f7 (W1 5 (.l .i) y7 (a4 7)) (f7 (i5 2 (e2 p5 (e2 p5 (e2 dIx (a4 0) (a4 2)) (a4 7)) (eC (.int 1)))) (i5 3 (e2 p5 (e2 p5 (e2 dIx (a4 0) (a4 3)) (a4 7)) (eC (.int 1)))))) [.list (m.map rwD),vc,.int s,.int t,mn,iD p,iD (lvl m c),y]
    = cz (.nx [.list (m.map rwD),vc,.int (stp m s (fa m c s t)).2,.int (stp m t (fa m c s t)).2,mn,iD (p++[fa m c s t]),iD (lvl m c),.int (fa m c s t)]):=by
   walk_at "ev";rw[a2s h0 h1,a2s h2 h3];walk_at "ev";rw[O1 (λq hq=>by rw[T0];exact w.next _ (E6 h0 h1) q hq) (by lia),O1 (λq hq=>by rw[T0];exact w.next _ (E6 h2 h3) q hq) (by lia)];walk_at "ev";rw[a9f (by rw[a1E,a1E,l1,l2]) (λe=>wI ((a5V h0 h1 h2 h3).mpr e)) (by rw[a1E,l1];lia)];walk_at "ev";unfold iD;rw[a2Y (by rw[af];lia)];walk_at "ev";have xK:fa m c s t<((rowAt m s).length:Int):=by rw[l1];exact a1
   have Cd:fa m c s t<((rowAt m t).length:Int):=by rw[l2];exact a1
   unfold fa at a0 xK Cd;rw[a2s h0 h1];walk_at "ev";rw[b1N a0 xK];walk_at "ev";rw[a2s h2 h3];walk_at "ev";rw[b1N a0 Cd];walk_at "ev";rw[aT];rfl
  rw[hb];have Be:=ih;rw[aH]at Be;exact Be
def b2c{m:g9}{k:Nat}(w:WF m k){D:Nat}(hD:D<=1000){s t:Int}(h0:0<=s)(h1:s<m.length)(h2:0<=t)(h3:t<m.length):y9 [.list (m.map rwD),.list ((aw (D+1)).map λd=>iD (lvl m d)),.int s,.int t]=cz (U6 m D s t):=by
 unfold y9;rw[A7 (by simp[VS.argsOk,imm])];unfold W7;obtain⟨c1,c2,c3,c4⟩:=a3N w D h0 h1 h2 h3;have hc:e2 a3d (m6 (iL (a4 1)) [2,3] pt1 tT (e2 dEq (e2 p5 (a4 0) (a4 1)) (e2 p5 (a4 0) (a4 2)))) (eC (.bool rp)) [.list (m.map rwD),.list ((aw (D+1)).map λd=>iD (lvl m d)),.int s,.int t,.none,.none,.none,.none]=cz (.int (mny m D s t)):=by
  rw[v_2,J7 (enc:=λd=>iD (lvl m d)) (xs:=aw (D+1)) (λd=>.bool (decide (lv m d s=lv m d t)))]
  ·have e:(aw (D+1)).map (λd=>cL (decide (lv m d s=lv m d t)))=((aw (D+1)).map λd=>decide (lv m d s=lv m d t)).map cL:=by rw[bC];rfl
   rw[e,v_c,b9l,v_count,Ha];rfl
  ·walk_at "ev"
  ·rw[bB];lia
  ·intro d hd;refine⟨[iD (lvl m d)],rfl,?_⟩;show e2 dEq _ _ [iD (lvl m d),.int s,.int t]=_;walk_at "ev";rw[P9 h0 (by rw[T0];exact h1),P9 h2 (by rw[T0];exact h3)];walk_at "ev";rfl
 rw[bP,bP,bP,bP,bT,Z5,b3e];show a2X (thn (b6j 4 (e2 a3d (m6 (iL (a4 1)) [2,3] pt1 tT (e2 dEq (e2 p5 (a4 0) (a4 1)) (e2 p5 (a4 0) (a4 2)))) (eC (.bool rp)) [.list (m.map rwD),.list ((aw (D+1)).map λd=>iD (lvl m d)),.int s,.int t,.none,.none,.none,.none]) [.list (m.map rwD),.list ((aw (D+1)).map λd=>iD (lvl m d)),.int s,.int t,.none,.none,.none,.none]) _)=_;rw[hc];walk_at "ev";rw[bB];by_cases c:mny m D s t=D+1
 ·rw[aV (show ((mny m D s t:Nat):Int)=((D+1:Nat):Int) by lia)];walk_at "ev";unfold U6;rw[aE c]
 ·rw[aZ (show ¬ ((mny m D s t:Nat):Int)=((D+1:Nat):Int) by lia)];walk_at "ev";rw[c4c (ds:=(aw (mny m D s t)).map λd=>iD (lvl m d))]
  ·obtain⟨s',t',x',y',h⟩:=a2o w (.list ((aw (D+1)).map λd=>iD (lvl m d))) (.int (mny m D s t:Nat)) (mny m D s t) s t [] .none .none h0 h1 h2 h3 (λ_=>c4 _ (az _) (by lia)) (c3 _ (by lia)) (by simp only[eS];lia);walk_at "ev";have h':=h;unfold iD at h' ⊢;rw[cX]at h';rw[h'];walk_at "ev";unfold U6;rw[aM c]
  ·rw[c3S];walk_at "ev";rw[c2q,c2r];walk_at "ev";rw[c3T,c2p,c0u (by lia) (by rw[af,bB];lia),<-nu,bH,qH,l_ (by lia)]
def c2L(m:g9)(n D:Nat):bw:=.list ((aw n).map λ(s:Nat)=>.list ((aw n).map λ(t:Nat)=>U6 m D s t))
def a4i{m:g9}{k:Nat}(w:WF m k){D:Nat}(hD:D<=1000){s:Int}(h0:0<=s)(h1:s<m.length):D5 [.list (m.map rwD),.list ((aw (D+1)).map λd=>iD (lvl m d)),.int s]=cz (.list ((aw m.length).map λ(t:Nat)=>U6 m D s t)):=by
 unfold D5;rw[A7 (by simp[VS.argsOk,imm])];unfold a0Y;have:=w.le;rw[a9z,a2A (n:=m.length) (λ(t:Nat)=>U6 m D s t) (by walk_at "ev") (by lia) (by lia) (λt ht=>?_)]
 ·rw[bH];rfl
 ·show eCl y9 _ [.int t,.list (m.map rwD),.list ((aw (D+1)).map λd=>iD (lvl m d)),.int s]=_;walk_at "ev";exact b2c w hD h0 h1 (by lia) ht
def b5j{m:g9}{k:Nat}(w:WF m k){D:Nat}(h1:C5 [.list (m.map rwD)]=cz (.list ((aw (D+1)).map λd=>iD (lvl m d))))(hD:D<=1000):a1a [.list (m.map rwD)]=cz (c2L m m.length D):=by
 have:=w.le;unfold a1a;rw[A7 (by simp[VS.argsOk])];unfold a9T;walk_at "ev";rw[h1];walk_at "ev";rw[a2A (n:=m.length) (λ(s:Nat)=>.list ((aw m.length).map λ(t:Nat)=>U6 m D s t)) (by walk_at "ev") (by lia) (by lia) (λs hs=>?_)]
 ·rw[bH];rfl
 ·show eCl D5 _ [.int s,.list (m.map rwD),.list ((aw (D+1)).map λd=>iD (lvl m d))]=_;walk_at "ev";exact a4i w hD (by lia) hs
def b5k{m:g9}{k:Nat}(w:WF m k):∃D:Nat,a1a [.list (m.map rwD)]=cz (c2L m m.length D)/\D+1<=m.length/\
  ∀s t:Int,0<=s->s<m.length->0<=t->t<m.length->lv m D s=lv m D t->lv m (D+1) s=lv m (D+1) t:=by
 obtain⟨D,h1,h2,h3,h4⟩:=a4U w;have:=w.le;exact⟨D,b5j w h1 (by lia),h2,h4⟩
end Prog
namespace VS
open L2
theorem b0p(w:WF m k):∀(c:Nat) (s t:Int),0<=s->s<m.length->0<=t->t<m.length->(c≠0->lv m c s≠lv m c t)->lv m (c-1) s=lv m (c-1) t->∀a∈fu m c s t,0<=a/\a<(k:Int)
 |0,s,t,_,_,_,_,_,_,a,ha=>nomatch ha
 |c+1,s,t,h0,h1,h2,h3,i_,heq,a,ha=>by
  obtain⟨⟨a0,a1⟩,f2,_⟩:=b0a w h0 h1 h2 h3 (i_ (by lia));rcases aN.mp ha with e|ha
  ·rw[e];exact⟨a0,a1⟩
  ·have n1:=w.nx h0 h1 a0 a1;have n2:=w.nx h2 h3 a0 a1;refine b0p w c _ _ n1.1 n1.2 n2.1 n2.2 (λhc=>?_) ?_ a ha
   ·obtain⟨c',rfl⟩:∃c',c=c'+1:=⟨c-1,by lia⟩;exact f2.resolve_left λz=>z ((J6 w h0 h1 h2 h3).mp heq _ a0 a1).1
   ·cases c with
    |zero=>rw[x8,x8]
    |succ c'=>exact ((J6 w h0 h1 h2 h3).mp heq _ a0 a1).2
end VS
namespace Prog
open L2 VS
def M8(g:List Int->D)(l:List (List Int)):List (D×D):=l.map λp=>(r0 p,g p)
def U8(p:List Int)(l:List (List Int)):List (List Int):=if p∈l then l else l++[p]
section
variable {g:List Int->D}{l:List (List Int)}{a:List Int}
def a7u:(M8 g l).length=l.length:=af ..
theorem a1K(a:List Int):∀l:List (List Int),D8 (M8 g l) (r0 a)=decide (a∈l)
 |[]=>rfl
 |q::l=>by
  have ih:=a1K a l;unfold D8 M8 at ih ⊢;rw[aB,List.any_cons,ih,a7t,Bool.eq_iff_iff];simp only[me,kC,aN];exact or_congr_left eq_comm
def b5l:G9 (M8 g l) (r0 a) (g a)=M8 g (U8 a l):=by
 unfold G9 U8;rw[a1K];by_cases c:a∈l
 ·rw[aV c,aE rfl,aE c];unfold M8;rw[bC];refine bW λx _=>?_
  show (if aR (r0 x) (r0 a)=rp then (r0 x,g a) else (r0 x,g x))=(r0 x,g x);rw[a7t];by_cases e:x=a
  ·rw[aV e,aE rfl,e]
  ·rw[aZ e,aM cu]
 ·rw[aZ c,aM c,aM cu];unfold M8;rw[aT];rfl
def b2d:(M8 g l).map (·.1)=l.map r0:=by unfold M8;rw[bC];rfl
def a6e(hv:fv U=cz (g a))(hk:fk U=cz (r0 a))(hd:U.getD i .none=.dict (M8 g l))(hl:l.length<1000000):A9 i rp fk fv U=cz (.nx (U.set i (.dict (M8 g (U8 a l))))):=by
 rw[a8V hv hk hd (a4W a) (by rw[a7u];exact hl),b5l]
def a7v:q∈U8 p l↔q∈l\/q=p:=by
 unfold U8;by_cases c:p∈l
 ·rw[aE c];exact⟨.inl,λh=>h.elim id λe=>e▸c⟩
 ·rw[aM c,ay,aq]
def b7K(h:l.Nodup):(U8 p l).Nodup:=by
 unfold U8;by_cases c:p∈l
 ·rw[aE c];exact h
 ·rw[aM c];rw[bV];refine⟨h,by simp,λx hx y hy e=>?_⟩;rw[aq]at hy;subst hy;exact c (e▸hx)
def a7w:(U8 p l).length<=l.length+1:=by
 unfold U8;by_cases c:p∈l
 ·rw[aE c];lia
 ·rw[aM c,av];exact az _
end
def c2M(l:List (List Int)):Option (List Int)->List (List Int)
 |none=>l
 |some p=>U8 p l
def ddP(ps:List (Option (List Int))):List (List Int):=ps.foldl c2M []
def a3O(ps:List (Option (List Int)))(o:Option (List Int)):ddP (ps++[o])=c2M (ddP ps) o:=by unfold ddP;rw[fP];rfl
def b7L(ps:List (Option (List Int))):p∈ddP ps↔cz p∈ps:=by
 induction ps using snoc_ind with
 |h0=>exact⟨λh=>(nomatch h),λh=>(nomatch h)⟩
 |h1 ps o ih=>
  rw[a3O,ay,aq];cases o with
  |none=>exact ih.trans ⟨.inl,λh=>h.elim id λe=>nomatch e⟩
  |some q=>
   show p∈U8 q (ddP ps)↔_;rw[a7v,ih];exact or_congr_right ⟨λe=>by rw[e],λe=>aF e⟩
def a6f(ps:List (Option (List Int))):(ddP ps).length<=ps.length:=by
 induction ps using snoc_ind with
 |h0=>exact az _
 |h1 ps o ih=>
  rw[a3O,av];cases o with
  |none=>exact oH ih
  |some q=>exact cC a7w (Nat.succ_le_succ ih)
def E9(l:List (List Int)):(P3 l).Perm l:=by
 have h:=(a1u (l.map a1v)).map tQ;rw[bC]at h;have e:l.map (tQ ∘ a1v)=l:=List.map_id'' (f:=tQ ∘ a1v) (λ_=>rfl) l;rw[e]at h;exact h
def a7x(h:a U=cz (.dict (M8 g l)))(hl:l.length<65536)(hm:∀p∈l,m [r0 p]=cz (kdP p)):a0p m a U=cz (.list ((P3 l).map r0)):=by
 unfold a0p;rw[h,eF];show (cz ((M8 g l).map (·.1))).bind _=_;rw[eF,b2d,a0u,eF,aE (b6N (l:=xn) hl hm)];rfl
def b8k{fa fb:EvE}{U:List D}{d:D}{k:Bool}(h:fa U=cz d)(hk:tr d=cz k):b6P fa fb U=if k then cz d else fb U:=by
 unfold b6P;rw[h,eF,hk,eF]
def a3P(a:List Int):imm (r0 a)=rp:=by unfold r0;simp only[imm];exact p8 a
def b0q(p:List Int):a0s [r0 p]=cz (kdP p):=by
 unfold a0s r0;rw[A7 (by simp[VS.argsOk,imm,p8])];unfold b4u;walk_at "ev";rfl
def mkL(l:List (List Int)):List (List Int):=if l=[] then [[]] else P3 l
def a3Q(ps:List (Option (List Int)))(hl:ps.length<64):B0 [.list (ps.map a2u)]=cz (.list ((mkL (ddP ps)).map iD)):=by
 have vD:=a6f ps;unfold B0;rw[A7 (by simp[VS.argsOk])];unfold a0b;walk_at "ev";refine C0 (λU=>∃x,U=[.list (ps.map a2u),.dict (M8 (λ_=>cL rp) (ddP ps)),x]) ?_ ?_
 ·obtain⟨U',h1,x,rfl⟩:=t9 (enc:=a2u) (set:=p6 2) (xs:=ps) (g:=(sIf (tB (e2 (a7P rp) (a4 2) (eC .none))) (A9 1 rp (O6 (a4 2)) (eC (.bool rp))) E3)) (U:=[.list (ps.map a2u),.dict [],.none])
   (λpre U=>∃x,U=[.list (ps.map a2u),.dict (M8 (λ_=>cL rp) (ddP pre)),x]) ⟨_,rfl⟩ (by
    rintro pre o post e U ⟨x,rfl⟩;have hlen:pre.length<64:=by have:=dG dQ e;simp at this;lia
    have hd2:=a6f pre;refine⟨_,[.list (ps.map a2u),.dict (M8 (λ_=>cL rp) (ddP (pre++[o]))),a2u o],rfl,?_,_,rfl⟩;rw[a3O];cases o with
    |none=>
     show (sIf (tB (e2 (a7P rp) (a4 2) (eC .none))) (A9 1 rp (O6 (a4 2)) (eC (.bool rp))) E3) [.list (ps.map a2u),.dict (M8 (λ_=>cL rp) (ddP pre)),.none]=_;walk_at "ev";rfl
    |some p=>
     show (sIf (tB (e2 (a7P rp) (a4 2) (eC .none))) (A9 1 rp (O6 (a4 2)) (eC (.bool rp))) E3) [.list (ps.map a2u),.dict (M8 (λ_=>cL rp) (ddP pre)),.list (p.map .int)]=_;walk_at "ev";rw[a6e (g:=(λ_=>cL rp)) (a:=p) (l:=ddP pre) rfl (a2C (ds:=p.map .int) rfl (p8 p)) rfl (by lia)];rfl)
  exact⟨_,h1,_,rfl⟩
 ·rintro U ⟨x,rfl⟩;have vk:(P3 (ddP ps)).length<=1000000:=by rw[(E9 _).length_eq];lia
  have hc:(m6 (iI (iL (a0p a0s (a4 1)))) [] pt1 tT (eI (G8 (a4 0)))) [.list (ps.map a2u),.dict (M8 (λ_=>cL rp) (ddP ps)),x]=cz (.list ((P3 (ddP ps)).map iD)):=by
   refine J7 (enc:=r0) (xs:=P3 (ddP ps)) iD ?_ vk λp _=>⟨[r0 p],rfl,?_⟩
   ·rw[a0r (ds:=(P3 (ddP ps)).map r0) ?_ (l5 _ a3P _)];rw[a8J,a7x (g:=(λ_=>cL rp)) (l:=ddP ps) rfl (by lia) λp _=>b0q p];rfl
   ·have hi:=p8 p;show eI (G8 (a4 0)) [.tuple (p.map .int)]=_;walk_at "ev"
  walk_at "ev";unfold mkL;by_cases c:ddP ps=[]
  ·rw[aE c];rw[c]at hc;rw[c,b8k (k:=xn) hc rfl];rfl
  ·rw[aM c];cases h:P3 (ddP ps) with
   |nil=>
    have:=(E9 (ddP ps)).symm;rw[h]at this;exact absurd this.eq_nil c
   |cons a l=>
    rw[h]at hc;rw[b8k (k:=rp) hc rfl];rfl
def a0f(m:g9)(D:Nat)(s t:Int):Option (List Int):=if mny m D s t=D+1 then p4 else cz (fu m (mny m D s t) s t)
def b7M(m:g9)(D:Nat)(s t:Int):a2u (a0f m D s t)=U6 m D s t:=by
 unfold a0f U6;by_cases c:mny m D s t=D+1
 ·rw[aE c,aE c];rfl
 ·rw[aM c,aM c];rfl
def a6g(m:g9)(D:Nat)(s:Int):List (List Int):=ddP ((aw m.length).map λ(t:Nat)=>a0f m D s t)
def mks(m:g9)(D:Nat)(s:Int):List (List Int):=mkL (a6g m D s)
def b5m(w:WF m k):∃D:Nat,Y4 [.list (m.map rwD)]=cz (.list ((aw m.length).map λ(s:Nat)=>cA ((mks m D s).map iD)))/\D+1<=m.length/\
  ∀s t:Int,0<=s->s<m.length->0<=t->t<m.length->lv m D s=lv m D t->lv m (D+1) s=lv m (D+1) t:=by
 have hn:=w.le;obtain⟨D,ha,hD,s_⟩:=b5k w;refine⟨D,?_,hD,s_⟩;unfold Y4;rw[A7 (by simp[VS.argsOk])];unfold a9V;walk_at "ev";rw[J7 (enc:=λ(s:Nat)=>cA ((aw m.length).map λ(t:Nat)=>U6 m D s t)) (xs:=aw m.length) (λ(s:Nat)=>cA ((mks m D s).map iD)) ?_ (by rw[bB];lia) ?_]
 ·rfl
 ·walk_at "ev";rw[ha];rfl
 ·intro s _;refine⟨[_],rfl,?_⟩;show eCl B0 (a6 (a4 0) b8) [cA ((aw m.length).map λ(t:Nat)=>U6 m D s t)]=_;have e:((aw m.length).map λ(t:Nat)=>U6 m D s t)=(((aw m.length).map λ(t:Nat)=>a0f m D s t).map a2u):=by
   rw[bC];exact bW λt _=>(b7M m D s t).symm
  walk_at "ev";rw[e,a3Q _ (by rw[af,bB];lia)];rfl
section
variable {m:g9}{k D:Nat}(w:WF m k)(s_:∀s t:Int,0<=s->s<m.length->0<=t->t<m.length->lv m D s=lv m D t->lv m (D+1) s=lv m (D+1) t)
include w
theorem a9g{s t:Int}(s0:0<=s)(s1:s<m.length)(t0:0<=t)(t1:t<m.length):a0f m D s t=p4↔lv m D s=lv m D t:=by
 obtain⟨c1,c2,c3,c4⟩:=a3N w D s0 s1 t0 t1;unfold a0f;by_cases c:mny m D s t=D+1
 ·rw[aE c];exact⟨λ_=>c3 D (by lia),λ_=>rfl⟩
 ·rw[aM c];exact⟨λh=>(nomatch h),λh=>absurd h (c4 D (by lia) (az _))⟩
theorem a9h{s t:Int}{p:List Int}(s0:0<=s)(s1:s<m.length)(t0:0<=t)(t1:t<m.length)(h:a0f m D s t=cz p):∃c,p=fu m c s t/\1<=c/\c<=D/\lv m c s≠lv m c t/\lv m (c-1) s=lv m (c-1) t:=by
 obtain⟨c1,c2,c3,c4⟩:=a3N w D s0 s1 t0 t1;unfold a0f at h;by_cases c:mny m D s t=D+1
 ·rw[aE c]at h;cases h
 ·rw[aM c]at h;cases h
  exact⟨mny m D s t,rfl,c1,by lia,c4 _ (az _) (by lia),c3 _ (by lia)⟩
theorem b5n{s:Int}{p:List Int}:p∈a6g m D s↔∃t:Nat,t<m.length/\a0f m D s t=cz p:=by
 unfold a6g;rw[b7L,aG];exact⟨λ⟨t,ht,e⟩=>⟨t,bu.mp ht,e⟩,λ⟨t,ht,e⟩=>⟨t,bu.mpr ht,e⟩⟩
theorem b0r{s:Int}(s0:0<=s)(s1:s<m.length){p:List Int}(h:p∈a6g m D s):(∀a∈p,0<=a/\a<(k:Int))/\1<=p.length/\p.length<=D:=by
 obtain⟨t,ht,e⟩:=(b5n w).mp h;obtain⟨c,rfl,c1,c2,c3,c4⟩:=a9h w s0 s1 (by lia) (by lia) e;rw[b4D];exact⟨b0p w c s t s0 s1 (by lia) (by lia) (λ_=>c3) c4,c1,c2⟩
theorem b7N(h:p∈mks m D s):p∈a6g m D s\/p=[]/\mks m D s=[[]]:=by
 unfold mks mkL at h ⊢;by_cases c:a6g m D s=[]
 ·rw[aE c]at h ⊢;exact .inr ⟨aq.mp h,rfl⟩
 ·rw[aM c]at h ⊢;exact .inl ((E9 _).mem_iff.mp h)
theorem c0I{s:Int}(s0:0<=s)(s1:s<m.length){p:List Int}(h:p∈mks m D s):(∀a∈p,0<=a/\a<(k:Int))/\p.length<=D:=by
 rcases b7N w h with z|⟨rfl,_⟩
 ·exact⟨(b0r w s0 s1 z).1,(b0r w s0 s1 z).2.2⟩
 ·exact⟨λa ha=>(nomatch ha),bL _⟩
end
end Prog
namespace VS
open L2
def lng(k:Nat)(L:List (List Int)):List (List Int):=L.flatMap λr=>(aw k).map λ(x:Nat)=>r++[(x:Int)]
def lvR(k:Nat):Nat->List (List Int)
 |0=>[[]]
 |n+1=>lng k (lvR k n)
def m5(k:Nat):Nat->List (List Int)
 |0=>[[]]
 |n+1=>m5 k n++lvR k (n+1)
def nxR(a:Int):List Int->List Int
 |[]=>[0]
 |x::r=>if x=a-1 then 0::nxR a r else (x+1)::r
def L6(a:Int)(l:List Int):List Int:=(nxR a l.reverse).reverse
def b2e(a:Int):L6 a []=[0]:=rfl
def T8(a:Int)(r:List Int)(x:Int):L6 a (r++[x])=if x=a-1 then L6 a r++[0] else r++[x+1]:=by
 unfold L6;rw[yG];show (if x=a-1 then 0::nxR a r.reverse else (x+1)::r.reverse).reverse=_;by_cases c:x=a-1
 ·rw[aE c,aE c,gF]
 ·rw[aM c,aM c,gF,xQ]
theorem a0v(a:Int)(p:List Int):∀j:Nat,L6 a (p++aI j (a-1))=L6 a p++aI j 0
 |0=>by simp
 |j+1=>by
  rw[gN,<-aH,T8,aE rfl,a0v a p j,aH,<-gN]
def Ch(a:Int):List Int->List (List Int)->List Int->Prop
 |s,[],e=>s=e
 |s,x::L,e=>x=s/\Ch a (L6 a s) L e
section
variable {a:Int}
theorem Ch.app:∀{L L':List (List Int)} {s m e:List Int},Ch a s L m->Ch a m L' e->Ch a s (L++L') e
 |[],_,s,m,e,h,h'=>by cases (show s=m from h);exact h'
 |x::L,L',s,m,e,h,h'=>⟨h.1,Ch.app h.2 h'⟩
theorem Ch.cut:∀{L L':List (List Int)} {s e:List Int},Ch a s (L++L') e->∃m,Ch a s L m/\Ch a m L' e
 |[],_,s,e,h=>⟨s,rfl,h⟩
 |x::L,L',s,e,h=>by
  obtain⟨m,h1,h2⟩:=Ch.cut h.2;exact⟨m,⟨h.1,h1⟩,h2⟩
theorem Ch.det:∀{L:List (List Int)} {s e e':List Int},Ch a s L e->Ch a s L e'->e=e'
 |[],s,e,e',h,h'=>by cases (show s=e from h);exact h'
 |x::L,s,e,e',h,h'=>Ch.det h.2 h'.2
def Ch.snoc(h:Ch a s L m):Ch a s (L++[m]) (L6 a m):=h.app ⟨rfl,rfl⟩
end
theorem a7y(k:Nat)(r:List Int):∀(c j:Nat),j+c+1=k->Ch k (r++[(j:Int)]) ((List.range' j (c+1)).map λ(x:Nat)=>r++[(x:Int)]) (L6 k r++[0])
 |0,j,h=>by
  refine⟨rfl,?_⟩;show L6 k (r++[(j:Int)])=_;rw[T8,aE (by lia)]
 |c+1,j,h=>by
  rw[List.range'_succ,aB];refine⟨rfl,?_⟩;rw[T8,aM (by lia)];have:=a7y k r c (j+1) (by lia);rw[Int.natCast_add]at this;exact this
theorem b5o(k:Nat)(hk:1<=k):∀{L:List (List Int)} {s e:List Int},Ch k s L e->Ch k (s++[0]) (lng k L) (e++[0])
 |[],s,e,h=>by cases (show s=e from h);exact rfl
 |x::L,s,e,h=>by
  have hx:x=s:=h.1;subst hx;have hb:=a7y k x (k-1) 0 (by lia);have e1:k-1+1=k:=by lia
  rw[e1,<-List.range_eq_range']at hb;exact hb.app (b5o k hk h.2)
theorem b8l(k:Nat)(hk:1<=k):∀n,Ch k (aI n 0) (lvR k n) (aI (n+1) 0)
 |0=>⟨rfl,rfl⟩
 |n+1=>by
  have:=b5o k hk (b8l k hk n);rw[<-gN,<-gN]at this;exact this
theorem b5p(k:Nat)(hk:1<=k):∀n,Ch k [] (m5 k n) (aI (n+1) 0)
 |0=>⟨rfl,rfl⟩
 |n+1=>(b5p k hk n).app (b8l k hk (n+1))
theorem a6h(k:Nat):∀L:List (List Int),(lng k L).length=L.length*k
 |[]=>by simp[lng]
 |x::L=>by
  have e:lng k (x::L)=((aw k).map λ(y:Nat)=>x++[(y:Int)])++lng k L:=rfl;rw[e,av,af,bB,a6h k L,aS,xP,Nat.one_mul,jM]
theorem a6i(k:Nat):∀n,(lvR k n).length=k^n
 |0=>rfl
 |n+1=>by
  show (lng k (lvR k n)).length=_;rw[a6h,a6i k n,Nat.pow_succ]
theorem b0s(k:Nat)(hk:1<=k):∀n,(m5 k n).length<=(n+1)*k^n
 |0=>by simp[m5]
 |n+1=>by
  show (m5 k n++lvR k (n+1)).length<=_;rw[av,a6i];have h1:=b0s k hk n;have h2:k^n<=k^(n+1):=mN hk (xO n);have h3:(n+1)*k^n<=(n+1)*k^(n+1):=Nat.mul_le_mul_left _ h2;rw[xP (n+1) 1,Nat.one_mul];lia
def b7O(h:∀r∈L,r.length=n):∀r∈lng k L,r.length=n+1:=by
 intro r hr;obtain⟨q,hq,hr⟩:=cx.mp hr;obtain⟨x,_,rfl⟩:=aG.mp hr;rw[av,h q hq];rfl
theorem a9i(k:Nat):∀n,∀r∈lvR k n,r.length=n
 |0,r,h=>by rw[aq.mp h];rfl
 |n+1,r,h=>b7O (a9i k n) r h
theorem a1f(k:Nat):∀n,∀r∈m5 k n,r.length<=n
 |0,r,h=>by rw[aq.mp h];exact az _
 |n+1,r,h=>by
  rcases ay.mp h with z|z
  ·exact oH (a1f k n r z)
  ·rw[a9i k (n+1) r z];exact az _
def lD(r:List Int):D:=.list (r.map .int)
end VS
namespace Prog
open L2 VS
def b2f{k n:Nat}{L:List (List Int)}(hk:k<=5)(hl:L.length<=10000)(hm:∀r∈L,r.length=n)(hn:n<=100):p9 [.list (L.map lD),.int k]=cz (.list ((lng k L).map lD)):=by
 unfold p9;rw[A7 (by simp[VS.argsOk,imm])];unfold P7;walk_at "ev";refine C0 (λU=>∃x,U=[.list (L.map lD),.int k,.list ((lng k L).map lD),x]) ?_ ?_
 ·obtain⟨U',g1,x,rfl⟩:=t9 (enc:=lD) (set:=p6 3) (xs:=L) (g:=(a6M 2 (m6 (iR (a4 1)) [3] pt1 tT (eI (F8 (a4 1) (x6 (a6 (a4 0) b8))))))) (U:=[.list (L.map lD),.int k,.list [],.none])
   (λpre U=>∃x,U=[.list (L.map lD),.int k,.list ((lng k pre).map lD),x]) ⟨_,rfl⟩ (by
    rintro pre r post e U ⟨x,rfl⟩;have hr:=hm r (by rw[e];simp);have gK:pre.length<L.length:=by rw[e];simp
    have hc:(m6 (iR (a4 1)) [3] pt1 tT (eI (F8 (a4 1) (x6 (a6 (a4 0) b8))))) [.list (L.map lD),.int k,.list ((lng k pre).map lD),lD r]=cz (.list (((aw k).map λ(x:Nat)=>r++[(x:Int)]).map lD)):=by
     rw[a2A (n:=k) (λ(x:Nat)=>lD (r++[(x:Int)])) (by walk_at "ev") (by lia) (by lia)]
     ·rw[bH,bC];rfl
     ·intro x hx;show eI (F8 (a4 1) (x6 (a6 (a4 0) b8))) [.int x,.list (r.map .int)]=_;rw[a4J,a3u];walk_at "ev";rw[show a5O (cz (.list (r.map .int))) (cz (.list [.int (x:Int)]))=_ from P6 (xs:=r) (ys:=[(x:Int)]) (by simp;lia)];exact a0X
    refine⟨_,[.list (L.map lD),.int k,.list ((lng k (pre++[r])).map lD),lD r],rfl,?_,_,rfl⟩;show a6M 2 _ [.list (L.map lD),.int k,.list ((lng k pre).map lD),lD r]=_;unfold a6M;rw[hc,eF];show (if ((lng k pre).map lD).length+(((aw k).map λ(x:Nat)=>r++[(x:Int)]).map lD).length<=1000000 then cz (Out.nx [.list (L.map lD),.int k,.list ((lng k pre).map lD++(((aw k).map λ(x:Nat)=>r++[(x:Int)]).map lD)),lD r]) else p4)=_;have h1:pre.length*k<=10000*5:=rQ (by lia) hk;rw[aE (by rw[af,a6h,af,af,bB];lia)];have e2:lng k (pre++[r])=lng k pre++((aw k).map λ(x:Nat)=>r++[(x:Int)]):=by
     unfold lng;rw[bX,gh]
    rw[e2,aT])
  exact⟨_,g1,_,rfl⟩
 ·rintro U ⟨x,rfl⟩;walk_at "ev"
def a9j{k n:Nat}(vw:1<=k)(hk:k<=5)(hn:n<=31)(hp:k^n<=3125):Y5 [.int k,.int n]=cz (.list ((m5 k n).map lD)):=by
 unfold Y5;rw[A7 (by simp[VS.argsOk,imm])];unfold a4Q;walk_at "ev";rw[b0W (n:=n) (by walk_at "ev") (by lia) (by lia),bH];walk_at "ev";refine C0 (λU=>∃x y,U=[.int k,.int n,.list ((m5 k n).map lD),x,y]) ?_ ?_
 ·obtain⟨U',g1,x,rfl⟩:=L1 (n:=n) (set:=p6 4) (g:=(f7 (i5 3 (eCl p9 (a6 (a4 3) (a6 (a4 0) b8)))) (a1S 2 3))) (U:=[.int k,.int n,.list [.list []],.list [.list []],.none])
   (λj U=>∃x,U=[.int k,.int n,.list ((m5 k j).map lD),.list ((lvR k j).map lD),x]) ⟨_,rfl⟩ (by
    rintro j hj U ⟨x,rfl⟩;have uw:∀i,i<=n->k^i<=3125:=λi hi=>cC (mN vw hi) hp
    refine⟨_,[.int k,.int n,.list ((m5 k (j+1)).map lD),.list ((lvR k (j+1)).map lD),.int j],rfl,?_,_,rfl⟩;show (f7 (i5 3 (eCl p9 (a6 (a4 3) (a6 (a4 0) b8)))) (a1S 2 3)) [.int k,.int n,.list ((m5 k j).map lD),.list ((lvR k j).map lD),.int j]=_;walk_at "ev";rw[b2f hk (by rw[a6i];have:=uw j (by lia);lia) (a9i k j) (by lia)];walk_at "ev";show (if ((m5 k j).map lD).length+((lng k (lvR k j)).map lD).length<=1000000 then cz (Out.nx [.int k,.int n,.list ((m5 k j).map lD++(lng k (lvR k j)).map lD),.list ((lng k (lvR k j)).map lD),.int j]) else p4)=_;have h1:=b0s k vw j;have h2:(j+1)*k^j<=32*3125:=rQ (by lia) (uw j (by lia));have h3:(lng k (lvR k j)).length=k^(j+1):=a6i k (j+1);have h4:=uw (j+1) (by lia);rw[aE (by rw[af,af,h3];lia),<-aT];rfl)
  exact⟨_,g1,_,_,rfl⟩
 ·rintro U ⟨x,y,rfl⟩;walk_at "ev"
def rF(a:Int):Nat->Int
 |0=>1
 |n+1=>rF a n*a+1
def szF(s a e:Int):Int:=s*rF a (e+1).toNat*(if 1<s then s-1 else 1)
def b7P(s a e:Int)(s0:1<=s)(s1:s<=30)(a0:1<=a)(a1:a<=5)(e0:0<=e)(e1:e<=30):N4 [.int s,.int a,.int e]=cz (.int (szF s a e)):=by
 unfold N4;rw[A7 (by simp[VS.argsOk,imm])];unfold a2i;walk_at "evm";rw[b0W (n:=e+1) (by walk_at "evm") (by lia) (by lia)];walk_at "evm";refine C0 (λU=>∃x,U=[.int s,.int a,.int e,.int (rF a (e+1).toNat),x]) ?_ ?_
 ·exact L1 (n:=(e+1).toNat) (λk U=>∃x,U=[.int s,.int a,.int e,.int (rF a k),x]) ⟨_,rfl⟩ λk hk U ⟨x,hx⟩=>by
   subst hx;refine⟨_,_,rfl,?_,.int k,rfl⟩;walk_at "evm";rfl
 ·rintro U ⟨x,rfl⟩;walk_at "evm";show a2X (retS (l2 a0C (cz (.int (s*rF a (e+1).toNat))) (cz (.int (if 1>s-1 then 1 else s-1)))))=_;have e:(if (1:Int)>s-1 then 1 else s-1)=if 1<s then s-1 else 1:=by
   by_cases c:(1:Int)>s-1
   ·rw[aE c];by_cases d:1<s
    ·rw[aE d];lia
    ·rw[aM d]
   ·rw[aM c,aE (by lia)]
  rw[e];have hb:((if 1<s then s-1 else 1:Int)).natAbs<2^64:=by
   by_cases d:1<s
   ·rw[aE d];lia
   ·rw[aM d];decide
  rw[b9l,a5z hb];rfl
end Prog
local macro_rules | `(tactic| walk_at "evc")=>`(tactic| first | (walk_at "ev";repeat (simp -implicitDefEqProofs (disch:=first | omega | assumption | decide) only [Prog.a3D];try walk_at "ev")) | (simp -implicitDefEqProofs (disch:=first | omega | assumption | decide) only [Prog.a3D];repeat (first | walk_at "ev" | simp -implicitDefEqProofs (disch:=first | omega | assumption | decide) only [Prog.a3D])))
namespace Prog
open L2 VS
local macro_rules | `(tactic| walk_at "ev1")=>`(tactic| simp -implicitDefEqProofs only [VS.b3e,VS.b8c,VS.b8b,VS.a9y,VS.b3d,VS.a5y,nN,ij])
abbrev B5(ns mn:List Int)(n k:Nat)(t:List D):List D:=.list (ns.map .int)::.int 10::.int n::.int k::.list (mn.map .int)::t
def Rw(k n:Nat)(r:List (Int×Int)):Prop:=r.length=k/\∀p∈r,0<=p.2/\p.2<(n:Int)
def Rw.app{k n:Nat}{r:List (Int×Int)}(h:Rw k n r){x y:Int}(y0:0<=y)(y1:y<n):Rw (k+1) n (r++[(x,y)]):=⟨by rw[av,h.1,bZ],λp hp=>by
 rcases ay.mp hp with z|z
 ·exact h.2 p z
 ·rw[aq.mp z];exact⟨y0,y1⟩⟩
def Rws(k n j:Nat)(m:g9):Prop:=m.length=j/\∀r∈m,Rw k n r
def Rws.app(h:Rws k n j m)(hr:Rw k n r):Rws k n (j+1) (m++[r]):=⟨by rw[av,h.1,bZ],λq hq=>by
 rcases ay.mp hq with z|z
 ·exact h.2 q z
 ·rw[aq.mp z];exact hr⟩
def Rws.wf(h:Rws k n n m)(n1:1<=n)(CS:n<=30)(k1:1<=k)(k5:k<=5):WF m k:=⟨by rw[h.1];lia,by rw[h.1];exact CS,k1,k5,λr hr=>(h.2 r hr).1,λr hr=>by rw[h.1];exact (h.2 r hr).2⟩
abbrev b7Q:EvS:=(f7 (i5 9 (eCl m_law_mixed (a6 (a4 0) (a6 (e2 G6 (e2 G6 (a4 1) (e2 a0C (a4 6) (a4 3))) (a4 8)) b8)))) (W1 7 (.l .i) y7 (a0F (a6 (e2 p5 (a4 4) (e2 K4 (a4 9) (eC (.int 2)))) (a6 (e2 K4 (e2 b5T (a4 9) (eC (.int 6))) (a4 2)) b8)))))
abbrev c2N:EvS:=(f7 (i5 7 (x6 b8)) (f7 (y6 (iR (a4 3)) (p6 8) b7Q) (W1 5 (.l (.l .i)) y7 (a4 7))))
def a9k(ns:List Int){mn:List Int}{n k:Nat}(n1:1<=n)(Gq:n<=10)(k1:1<=k)(k5:k<=5)(hm:mn.length=2):∃m:g9,m_law_drawn [.list (ns.map .int),.int 10,.int n,.int k,.list (mn.map .int)]=cz (.list (m.map rwD))/\WF m k/\m.length=n:=by
 unfold m_law_drawn;rw[A7 (by simp[VS.argsOk,imm])];unfold b_law_drawn;walk_at "evc";rw[b0W (n:=n) (by walk_at "evc") (by lia) (by lia),bH];walk_at "evc";have row:∀s:Nat,s<n->∀(rows:D) (y z:D),∃(r:List (Int×Int)) (x' y':D),Rw k n r/\(y6 (iR (a4 3)) (p6 8) b7Q) (B5 ns mn n k [rows,.int s,.list [],y,z])=cz (.nx (B5 ns mn n k [rows,.int s,rwD r,x',y'])):=by
  intro s hs rows y z;walk_at "evc";rw[b0W (n:=k) (by walk_at "evc") (by lia) (by lia),bH];walk_at "evc";obtain⟨U',h1,r,x',y',h2,rfl⟩:=L1 (n:=k) (set:=p6 8) (g:=b7Q) (U:=(B5 ns mn n k [rows,.int s,.list [],y,z]))
   (λj U=>∃(r:List (Int×Int)) (x' y':D),Rw j n r/\U=(B5 ns mn n k [rows,.int s,rwD r,x',y']))
   ⟨[],y,z,⟨rfl,λp hp=>(nomatch hp)⟩,rfl⟩ (by
    rintro j hj U ⟨r,x',y',hr,rfl⟩;have Gw:(s:Int)*(k:Int)<=30*5:=by
     have:s*k<=30*5:=rQ (by lia) (by lia)
     exact_mod_cast this
    have Du:0<=(s:Int)*(k:Int):=Int.mul_nonneg (by lia) (by lia);have c0:=fK (L9 ns (10+(s:Int)*k+j)) (show (2:Int)≠0 by decide);have c1:=eG (L9 ns (10+(s:Int)*k+j)) (show (0:Int)<2 by decide);have d0:=fK (L9 ns (10+(s:Int)*k+j) / 6) (show ((n:Int))≠0 by lia);have d1:=eG (L9 ns (10+(s:Int)*k+j) / 6) (show (0:Int)<(n:Int) by lia);refine⟨_,(B5 ns mn n k [rows,.int s,rwD (r++[(mn.getD (L9 ns (10+(s:Int)*k+j) % 2).toNat 0,L9 ns (10+(s:Int)*k+j) / 6 % n)]),.int j,.int (L9 ns (10+(s:Int)*k+j))]),rfl,?_,_,_,_,hr.app d0 d1,rfl⟩;unfold b7Q;walk_at "evc";rw[a1l (i:=s) (by lia)];walk_at "evc";rw[P9 c0 (by lia)];walk_at "evc";unfold rwD;rw[a2Y (by rw[af,hr.1];lia),aT];rfl)
  exact⟨r,x',y',h2,h1⟩
 refine P5 (R:=λo=>∃m:g9,o=cz (.list (m.map rwD))/\WF m k/\m.length=n) (λU=>∃(m:g9) (x y z u:D),Rws k n n m/\U=(B5 ns mn n k [.list (m.map rwD),x,y,z,u])) ?_ ?_
 ·refine L1 (n:=n) (set:=p6 6) (U:=(B5 ns mn n k [.list [],.none,.none,.none,.none])) (g:=c2N)
   (λj U=>∃(m:g9) (x y z u:D),Rws k n j m/\U=(B5 ns mn n k [.list (m.map rwD),x,y,z,u]))
   ⟨[],.none,.none,.none,.none,⟨rfl,λr hr=>(nomatch hr)⟩,rfl⟩ ?_
  rintro j hj U ⟨m,x,y,z,u,hm,rfl⟩;obtain⟨r,x',y',Dy,Dx⟩:=row j hj (.list (m.map rwD)) z u;refine⟨_,(B5 ns mn n k [.list ((m++[r]).map rwD),.int j,rwD r,x',y']),rfl,?_,m++[r],_,_,_,_,hm.app Dy,rfl⟩;unfold c2N;rw[Z5];walk_at "ev1";rw[Z5,Dx];walk_at "evc";rw[a2Y (by rw[af,hm.1];lia),aT];rfl
 rintro U ⟨m,x,y,z,u,hm,rfl⟩;walk_at "evc";exact⟨m,rfl,hm.wf (by lia) (by lia) (by lia) (by lia),hm.1⟩
def a6j(ns:List Int):∃(m:g9) (k:Nat),m_law_machine [.list (ns.map .int)]=cz (.list (m.map rwD))/\WF m k/\m.length<=10/\(5<m.length->k<=2)/\(3<k->m.length<=2):=by
 have em:∀(i b:Int),0<b->0<=L9 ns i % b/\L9 ns i % b<b:=λi b hb=>⟨fK _ (by lia),eG _ hb⟩
 have a5:=em 0 5 (by decide);have a2:=em 0 2 (by decide);have b3:=em 1 3 (by decide);have b2:=em 1 2 (by decide);unfold m_law_machine;rw[A7 (by simp[VS.argsOk])];unfold b_law_machine;walk_at "evc";refine P5 (R:=λo=>∃(m:g9) (k:Nat),o=cz (.list (m.map rwD))/\WF m k/\m.length<=10/\(5<m.length->k<=2)/\(3<k->m.length<=2)) (λU=>∃n k:Int,1<=n/\n<=10/\1<=k/\k<=3/\(5<n->k<=2)/\U=[.list (ns.map .int),.int n,.int k,.none]) ?_ ?_
 ·by_cases c:L9 ns 2 % 8=2
  ·rw[aV c];walk_at "evc";exact⟨_,rfl,_,_,by lia,by lia,by lia,by lia,by lia,rfl⟩
  ·rw[aZ c];walk_at "evc";exact⟨_,rfl,_,_,by lia,by lia,by lia,by lia,by lia,rfl⟩
 rintro U ⟨n,k,n1,Ba,k1,k3,nk,rfl⟩;rw[Z5];refine P5 (R:=λo=>∃(m:g9) (k:Nat),o=cz (.list (m.map rwD))/\WF m k/\m.length<=10/\(5<m.length->k<=2)/\(3<k->m.length<=2)) (λU=>∃n k:Nat,1<=n/\n<=10/\1<=k/\k<=5/\(5<n->k<=2)/\(3<k->n<=2)/\U=[.list (ns.map .int),.int n,.int k,.none]) ?_ ?_
 ·walk_at "evc";by_cases c:L9 ns 2 % 8=6
  ·rw[aV c];walk_at "evc";exact⟨_,rfl,(1+L9 ns 0 % 2).toNat,(4+L9 ns 1 % 2).toNat,by lia,by lia,by lia,by lia,by lia,by lia,by rw[e_ (by lia),e_ (by lia)]⟩
  ·rw[aZ c];walk_at "evc";exact⟨_,rfl,n.toNat,k.toNat,by lia,by lia,by lia,by lia,by lia,by lia,by rw[e_ (by lia),e_ (by lia)]⟩
 rintro U ⟨n,k,n1,Ba,k1,k5,nk,kn,rfl⟩;walk_at "evc";refine P5 (R:=λo=>∃(m:g9) (k:Nat),o=cz (.list (m.map rwD))/\WF m k/\m.length<=10/\(5<m.length->k<=2)/\(3<k->m.length<=2)) (λU=>∃mn:List Int,mn.length=2/\U=[.list (ns.map .int),.int n,.int k,.list (mn.map .int)]) ?_ ?_
 ·by_cases c:L9 ns 3 % 3=0
  ·rw[aV c];have Fw:(10^(60:Int).toNat:Int)=big:=by decide
   have CJ:=c0v;have x0:=b7o ns 4;have x1:L9 ns 4<2147483629:=eG _ (by decide);have hp:b0I (L9 ns 4) 7=rp:=by
    unfold b0I;simp only[aL,kC];exact⟨⟨by decide,by decide⟩,by lia⟩
   walk_at "evc";rw[v_pow (i:=10) (j:=60) (by decide),Fw];generalize big=T at CJ;walk_at "evc";rw[v_pow hp]
   try walk_at "evc"
   try rw[a1l (i:=2) (by decide)]
   try walk_at "evc"
   try rw[v_mod (by lia)]
   try walk_at "evc"
   exact⟨_,rfl,[_,_],rfl,rfl⟩
  ·rw[aZ c];walk_at "evc";exact⟨_,rfl,[0,1],rfl,rfl⟩
 rintro U ⟨mn,DT,rfl⟩;obtain⟨m,q1,q2,q3⟩:=a9k ns n1 Ba k1 k5 DT;walk_at "evc";rw[q1];walk_at "evc";exact⟨m,k,rfl,q2,by lia,by lia,by lia⟩
def b5q(ns:List Int)(w:WF m k):∃x:Int,m_law_extra [.list (ns.map .int),.list (m.map rwD)]=cz (.int x)/\-1<=x/\x<=2/\(8<m.length*k\/3<k->x<=1)/\(5<m.length->x<=0):=by
 have qu:=w.pos;have hle:=w.le;have hk:=w.k5;have e0:(rowAt m 0).length=k:=w.row (by lia) (by lia);have ou:=a2s (m:=m) (s:=0) (by lia) (by lia);have zH:=a1l (i:=(m.length:Nat)) (j:=(k:Nat)) (by lia);have q0:=fK (L9 ns 5) (show (6:Int)≠0 by decide);have q1:=eG (L9 ns 5) (show (0:Int)<6 by decide);obtain⟨x,hx,x0,x1⟩:∃x:Int,L2.atI [aP 0,.int 1,.int 2,.int 0,.int 1,.int (-1)] (L9 ns 5 % 6)=cz (.int x)/\-1<=x/\x<=2:=by
  generalize L9 ns 5 % 6=q at q0 q1;have:q=0\/q=1\/q=2\/q=3\/q=4\/q=5:=by lia
  rcases this with rfl|rfl|rfl|rfl|rfl|rfl<;>exact⟨_,rfl,by decide,by decide⟩
 unfold m_law_extra;rw[A7 (by simp[VS.argsOk])];unfold b_law_extra;have hA:(i5 2 (e2 p5 (x6 (a6 (eC (.int 0)) (a6 (eC (.int 1)) (a6 (eC (.int 2)) (a6 (eC (.int 0)) (a6 (eC (.int 1)) (a6 (eC (.int (-1))) b8))))))) (e2 K4 (eCl m_law_mixed (a6 (a4 0) (a6 (eC (.int 5)) b8))) (eC (.int 6))))) [.list (ns.map .int),.list (m.map rwD),.none]=cz (.nx [.list (ns.map .int),.list (m.map rwD),.int x]):=by
  repeat (first|rw[hx]|walk_at "evc")
 show ∃x:Int,a2X (f7 _ _ [.list (ns.map .int),.list (m.map rwD),.none])=_/\_;rw[Z5,hA,a5y,Z5];refine P5 (R:=λo=>∃x:Int,o=cz (.int x)/\-1<=x/\x<=2/\(8<m.length*k\/3<k->x<=1)/\(5<m.length->x<=0)) (λU=>∃x:Int,-1<=x/\x<=2/\(8<m.length*k\/3<k->x<=1)/\U=[.list (ns.map .int),.list (m.map rwD),.int x]) ?_ ?_
 ·by_cases c:(8:Int)<(m.length:Int)*(k:Int)
  ·repeat (first|rw[ou]|rw[e0]|rw[zH]|rw[aV c]|rw[a8Z]|walk_at "evc")
   exact⟨_,rfl,_,by lia,by lia,λ_=>by lia,rfl⟩
  ·have c':¬ 8<m.length*k:=λz=>c (by exact_mod_cast z)
   by_cases c2:(3:Int)<(k:Int)
   ·repeat (first|rw[ou]|rw[e0]|rw[zH]|rw[aZ c]|rw[aV c2]|rw[a8Z]|walk_at "evc")
    exact⟨_,rfl,_,by lia,by lia,λ_=>by lia,rfl⟩
   ·repeat (first|rw[ou]|rw[e0]|rw[zH]|rw[aZ c]|rw[aZ c2]|walk_at "evc")
    exact⟨_,rfl,_,x0,x1,λz=>by rcases z with z|z<;>lia,rfl⟩
 rintro U ⟨x,x0,x1,xk,rfl⟩;by_cases c:(5:Int)<(m.length:Int)
 ·repeat (first|rw[aV c]|rw[a8Z]|walk_at "evc")
  exact⟨_,rfl,by lia,by lia,λz=>by have:=xk z;lia,λ_=>by lia⟩
 ·repeat (first|rw[aZ c]|walk_at "evc")
  exact⟨_,rfl,x0,x1,xk,λz=>by lia⟩
def a4X{m:g9}{k:Nat}(w:WF m k){p:List Int}{s:Int}(h0:0<=s)(h1:s<m.length)(hp:∀x∈p,0<=x/\x<(k:Int))(hl:p.length<=13000) :
  D6 [.list (m.map rwD),.int s,.list (p.map .int)]=cz (.tuple [.list ((i6 m s p).1.map .int),.int (i6 m s p).2]):=by
 unfold D6;rw[A7 (by simp[VS.argsOk,imm])];unfold a7n;walk_at "ev";rw[a0r (ds:=p.map .int) (by walk_at "ev") (p8 p)];walk_at "ev";refine C0 (λU=>∃x y:D,U=[.list (m.map rwD),.int (i6 m s p).2,.list (p.map .int),.list ((i6 m s p).1.map .int),x,y]) ?_ ?_
 ·obtain⟨U',h2,x,y,rfl⟩:=t9 (enc:=aP) (set:=p6 4) (xs:=p) (U:=[.list (m.map rwD),.int s,.list (p.map .int),.list [],.none,.none])
   (g:=(f7 (i5 5 (e2 p5 (e2 dIx (a4 0) (a4 1)) (a4 4))) (f7 (W1 3 (.l .i) y7 (e2 p5 (a4 5) (eC (.int 0)))) (i5 1 (e2 p5 (a4 5) (eC (.int 1)))))))
   (λpre U=>∃x y:D,U=[.list (m.map rwD),.int (i6 m s pre).2,.list (p.map .int),.list ((i6 m s pre).1.map .int),x,y]) ⟨_,_,rfl⟩ (by
    rintro pre a post e U ⟨x,y,rfl⟩;have oe:∀b∈pre,0<=b/\b<(k:Int):=λb hb=>hp b (by rw[e];exact ak _ hb)
    have ha:=hp a (by rw[e];simp);have hs:=Y2 w pre s h0 h1 oe;have hr:=w.row hs.1 hs.2;have hlen:pre.length<13000:=by have:=dG dQ e;simp at this;lia
    refine⟨_,[.list (m.map rwD),.int (i6 m s (pre++[a])).2,.list (p.map .int),.list ((i6 m s (pre++[a])).1.map .int),.int a,stD (stp m (i6 m s pre).2 a)],rfl,?_,_,_,rfl⟩;walk_at "ev";rw[a2s hs.1 hs.2];walk_at "ev";rw[b1N ha.1 (by lia)];walk_at "ev";rw[a2Y (by rw[af,a4L];lia)];walk_at "ev";rw[R8,aT];rfl)
  exact⟨_,h2,_,_,rfl⟩
 ·rintro U ⟨x,y,rfl⟩;walk_at "ev"
def i8(l ps:List (List Int)):List (List Int):=ps.foldl (λl p=>U8 p l) l
def a7z:i8 l (ps++[p])=U8 p (i8 l ps):=by unfold i8;rw[fP];rfl
theorem T9:∀{ps l:List (List Int)},q∈i8 l ps↔q∈l\/q∈ps
 |[],l=>by simp[i8]
 |p::ps,l=>by
  show q∈i8 (U8 p l) ps↔_;rw[T9,a7v,aN,or_assoc]
theorem a1L:∀{ps l:List (List Int)},l.Nodup->(i8 l ps).Nodup
 |[],_,h=>h
 |p::ps,l,h=>show (i8 (U8 p l) ps).Nodup from a1L (b7K h)
theorem U0:∀{ps l:List (List Int)},(i8 l ps).length<=l.length+ps.length
 |[],_=>az _
 |p::ps,l=>by
  have h1:=U0 (ps:=ps) (l:=U8 p l);have h2:=a7w (p:=p) (l:=l);show (i8 (U8 p l) ps).length<=_;rw[aS];lia
theorem X2{α β:Type}{f:α->List β}{c:Nat}:∀{l:List α},(∀x∈l,(f x).length<=c)->(l.flatMap f).length<=l.length*c
 |[],_=>bL _
 |x::l,h=>by
  have h1:=h x aK;have h2:=X2 (f:=f) (c:=c) λy hy=>h y (ar x hy)
  rw[dr,av,aS,xP];lia
def b2g(C:Can L k)(hA:AllMet L k W)(j:Nat):j<L.length->(j:Int)∈W.map (·.1):=by
 induction j using GZ with
 |_ j ih=>
  intro hj;have h1:=C.lead j hj;have hc:=a4V hj;have hp:=C.pre (Zq:=(aw j).flatMap (nxs L k)) (yn:=(j::(aw (L.length-j-1)).map (λi=>j+1+i)).flatMap (nxs L k)) (by rw[hc,bX]);have hm:(j:Int)∈dkk [0] ((aw j).flatMap (nxs L k)):=by rw[hp];exact b7F.mpr ⟨by lia,by lia⟩
  rcases (J8 _ _).mp hm with z|z
  ·have:(j:Int)=0:=by simpa using z
   rw[this];exact aG.mpr ⟨_,hA.zero,rfl⟩
  ·obtain⟨i,hi,h2⟩:=cx.mp z;obtain⟨a,ha,h3⟩:=aG.mp h2;have iw:=bu.mp hi;obtain⟨⟨t,p⟩,ye,lg⟩:=aG.mp (ih i iw (by lia));have lg:t=(i:Int):=lg;subst lg;obtain⟨q,hq,_⟩:=hA.next ye (bu.mp ha);exact aG.mpr ⟨_,hq,h3⟩
theorem b5r(k:Nat):∀n,∀r∈lvR k n,∀a∈r,0<=a/\a<(k:Int)
 |0,r,hr,a,ha=>by
  have:r=[]:=by simpa[lvR]using hr
  rw[this]at ha;cases ha
 |n+1,r,hr,a,ha=>by
  have vn:r∈lng k (lvR k n):=hr;unfold lng at vn;obtain⟨q,hq,h2⟩:=cx.mp vn;obtain⟨x,hx,rfl⟩:=aG.mp h2;have:=bu.mp hx;rcases ay.mp ha with z|z
  ·exact b5r k n q hq a z
  ·rw[aq.mp z];lia
theorem a3R(k:Nat):∀n,∀r∈m5 k n,∀a∈r,0<=a/\a<(k:Int)
 |0,r,hr=>b5r k 0 r hr
 |n+1,r,hr=>by
  have vn:r∈m5 k n++lvR k (n+1):=hr;rcases ay.mp vn with z|z
  ·exact a3R k n r z
  ·exact b5r k (n+1) r z
def b5s(k:Nat)(l:List (List Int)):Prop:=∀p∈l,(∀a∈p,0<=a/\a<(k:Int))/\p.length<=100
def c0J:ddP (a++p4::b)=ddP (a++b):=by
 unfold ddP;rw[fP,fP];rfl
def a7A{m:g9}{k D:Nat}(w:WF m k){s:Int}(s0:0<=s)(s1:s<m.length):(mks m D s).length<=max 1 (m.length-1):=by
 have h:(a6g m D s).length+1<=m.length:=by
  obtain⟨a,b,e⟩:=List.append_of_mem (show p4∈(aw m.length).map (λt:Nat=>a0f m D s t) from aG.mpr ⟨s.toNat,bu.mpr (by lia),by rw[e_ s0];exact (a9g w s0 s1 s0 s1).mpr rfl⟩);have hl:=dG dQ e;rw[af,bB,av,aS]at hl;have:=a6f (a++b);rw[av]at this;unfold a6g;rw[e,c0J];lia
 unfold mks mkL;by_cases c:a6g m D s=[]
 ·rw[aE c,bZ];lia
 ·rw[aM c,(E9 _).length_eq];lia
def pP(L:g9)(D:Nat)(f:Nat->List Int)(s:Nat)(r:List Int):List (List Int):=(mks L D (i6 L s r).2).map λq=>f s++r++q
def rP(L:g9)(D:Nat)(f:Nat->List Int)(R:List (List Int))(s:Nat):List (List Int):=R.flatMap (pP L D f s)
def PB(L:g9)(D:Nat)(f:Nat->List Int)(R:List (List Int)):List (List Int):=(aw L.length).flatMap (rP L D f R)
structure Bok (L:g9) (k D:Nat) (W:M7) (f:Nat->List Int) (e:Nat):Prop where
 can:Can L k
 mkm:Y4 [.list (L.map rwD)]=cz (.list ((aw L.length).map λ(s:Nat)=>cA ((mks L D s).map iD)))
 dl:D+1<=L.length
 met:AllMet L k W
 wy:S7 [.list (L.map rwD)]=cz (.list (a1J W L.length))
 f:∀s:Nat,s<L.length->((s:Int),f s)∈W
 e2:e<=2
section
variable {L:g9}{k D:Nat}{W:M7}{f:Nat->List Int}{e:Nat}(B:Bok L k D W f e)
include B
theorem Bok.way(hs:s<L.length):(∀a∈f s,0<=a/\a<(k:Int))/\(f s).length<=30/\wyD W s=iD (f s):=by
 have hp:=B.f s hs;have h1:=B.met.leads (f s).length (az _) hp;have h2:(f s).length<=W.length:=B.met.ql _ hp;have h3:=B.met.len;have h4:=B.can.wf.le;exact⟨h1.2,by lia,c0H B.met.nodup hp⟩
theorem Bok.fin(hs:s<L.length)(hr:r∈m5 k (e+1)):0<=(i6 L s r).2/\(i6 L s r).2<L.length:=Y2 B.can.wf r s (by lia) (by lia) (a3R k _ r hr)
theorem Bok.mq(hs:s<L.length)(hr:r∈m5 k (e+1))(hq:q∈mks L D (i6 L s r).2):(∀a∈q,0<=a/\a<(k:Int))/\q.length<=D:=c0I B.can.wf (B.fin hs hr).1 (B.fin hs hr).2 hq
theorem Bok.good:b5s k (PB L D f (m5 k (e+1))):=by
 intro p hp;obtain⟨s,hs,hp⟩:=cx.mp hp;obtain⟨r,hr,hp⟩:=cx.mp hp;obtain⟨q,hq,rfl⟩:=aG.mp hp;have hs:=bu.mp hs;obtain⟨a1,a2,_⟩:=B.way hs;obtain⟨b1,b2⟩:=B.mq hs hr hq;have h1:=a1f k _ r hr;have h2:=B.dl;have h3:=B.can.wf.le;have h4:=B.e2;refine⟨λa ha=>?_,by rw[av,av];lia⟩;rcases ay.mp ha with z|z
 ·rcases ay.mp z with z|z
  ·exact a1 a z
  ·exact a3R k _ r hr a z
 ·exact b1 a z
theorem Bok.count:(PB L D f (m5 k (e+1))).length<=L.length*((m5 k (e+1)).length*max 1 (L.length-1)):=by
 have h:=X2 (l:=aw L.length) (f:=rP L D f (m5 k (e+1))) (c:=(m5 k (e+1)).length*max 1 (L.length-1)) λs hs=>X2 λr hr=>by
  unfold pP;rw[af];exact a7A B.can.wf (B.fin (bu.mp hs) hr).1 (B.fin (bu.mp hs) hr).2
 rw[bB]at h;exact h
abbrev eT(l:List (List Int)):VS.D:=.dict (M8 (λ_=>cL rp) l)
theorem a4Y{set:List VS.D->VS.D->Option (List VS.D)}{X:List (List Int)}{stt:VS.D->VS.D->List VS.D}(hX:X.length+(pP L D f s r).length<=3000)
  (zr:∀d x y,set (stt d x) y=cz (stt d y)) (qY:∀l q,q∈mks L D (i6 L s r).2->l.length<=3000->g (stt (eT l) (iD q))=cz (.nx (stt (eT (U8 (f s++r++q) l)) (iD q)))) (x:VS.D) :
  ∃x',U7 set g ((mks L D (i6 L s r).2).map iD) (stt (eT (i8 [] X)) x)=cz (.nx (stt (eT (i8 [] (X++pP L D f s r))) x')):=by
 unfold pP at hX ⊢;rw[af]at hX;obtain⟨U',g1,x',rfl⟩:=t9 (enc:=iD) (set:=set) (xs:=mks L D (i6 L s r).2) (g:=g) (U:=stt (eT (i8 [] X)) x)
  (λpre U=>∃x',U=stt (eT (i8 [] (X++pre.map λq=>f s++r++q))) x') ⟨x,by rw[cX,aX]⟩ (by
   rintro pre q post e1 U ⟨x',rfl⟩;have hl:=U0 (ps:=X++pre.map λq=>f s++r++q) (l:=[]);rw[e1]at hX;simp only[av,af,aS,eS]at hX hl;refine⟨_,_,zr _ _ _,qY (i8 [] (X++pre.map λq=>f s++r++q)) q (by rw[e1];simp) (by lia),iD q,?_⟩;rw[aT,cm,<-aH,a7z])
 exact⟨x',g1⟩
end
abbrev pbT(L:g9)(e:Nat)(A R:VS.D)(t:List VS.D):List VS.D:=.list (L.map rwD)::.int (e:Nat)::A::R::t
abbrev c2O:EvS:=(A9 4 rp (O6 (eI (F8 (eI (F8 (a4 6) (a4 7))) (a4 8)))) (eC (.bool rp)))
abbrev b5t:EvS:=y6 (iL (e2 dIx (a4 2) (e2 dIx (eCl D6 (a6 (a4 0) (a6 (a4 5) (a6 (a4 7) b8)))) (eC (.int 1))))) (p6 8) c2O
abbrev c0K:EvS:=y6 (iL (a4 3)) (p6 7) b5t
def a7B{L:g9}{D:Nat}{t:Int}(t0:0<=t)(t1:t<L.length):dIx (.list ((aw L.length).map λ(s:Nat)=>cA ((mks L D s).map iD))) (.int t)=cz (.list ((mks L D t).map iD)):=by
 show L2.atI ((aw L.length).map λ(s:Nat)=>cA ((mks L D s).map iD)) t=_;rw[a1m t0 (by rw[af,bB];exact t1),dE,nO,show ((t.toNat:Nat):Int)=t by lia]
def b2h{L:g9}{k D:Nat}{W:M7}{f:Nat->List Int}{e:Nat}(B:Bok L k D W f e)(hP:(PB L D f (m5 k (e+1))).length<=3000)(yh:k^(e+1)<=3125):B6 [.list (L.map rwD),.int (e:Nat)]=cz (.list ((P3 (i8 [] (PB L D f (m5 k (e+1))))).map iD)):=by
 have w:=B.can.wf;have hle:=w.le;have qu:=w.pos;have hD:=B.dl;have he:=B.e2;have e0:(rowAt L 0).length=k:=w.row (by lia) (by lia);unfold B6;rw[A7 (by simp[VS.argsOk,imm])];unfold a0d
 try walk_at "ev"
 rw[B.mkm]
 try walk_at "ev"
 have xq:E7 [.list (L.map rwD)]=cz (.int (k:Nat)):=by
  unfold E7;rw[A7 (by simp[VS.argsOk])];unfold a1B
  try walk_at "ev"
  rw[a2s (by lia) (by lia)]
  try walk_at "ev"
  rw[e0]
  try rfl
 rw[xq]
 try walk_at "ev"
 rw[show ((e:Nat):Int)+1=((e+1:Nat):Int) by lia,a9j w.k1 w.k5 (by lia) yh]
 try walk_at "ev"
 have Dj:eCl S7 (a6 (a4 0) b8) [.list (L.map rwD),.int (e:Nat),.list ((aw L.length).map λ(s:Nat)=>cA ((mks L D s).map iD)),.list ((m5 k (e+1)).map lD),.dict [],.none,.none,.none,.none]=cz (.list (a1J W L.length)):=by
  try walk_at "ev"
  exact B.wy
 rw[c0C Dj]
 try walk_at "ev"
 unfold a1J;rw[a1e];have wN:∀t:Int,0<=t->t<L.length->dIx (.list ((aw L.length).map λ(s:Nat)=>cA ((mks L D s).map iD))) (.int t)=cz (.list ((mks L D t).map iD)):=λt t0 t1=>a7B t0 t1
 have hB:lL (cz (.list ((m5 k (e+1)).map lD)))=cz ((m5 k (e+1)).map lD):=rfl;generalize cA ((aw L.length).map λ(s:Nat)=>cA ((mks L D s).map iD))=A at wN ⊢;generalize cA ((m5 k (e+1)).map lD)=R at hB ⊢;refine C0 (λU=>∃(x y z u:VS.D),U=(pbT L e A R [eT (i8 [] (PB L D f (m5 k (e+1)))),x,y,z,u])) ?_ ?_
 ·have inner:∀(s:Nat),s<L.length->∀r∈m5 k (e+1),∀(X:List (List Int)),X.length+(pP L D f s r).length<=3000->∀x:VS.D,∃x',b5t (pbT L e A R [eT (i8 [] X),.int s,iD (f s),lD r,x])=cz (.nx (pbT L e A R [eT (i8 [] (X++pP L D f s r)),.int s,iD (f s),lD r,x'])):=by
   intro s hs r hr X hX x;have zu:=a3R k _ r hr;have wD:=a1f k _ r hr;have pf:=B.fin hs hr;have wu:e2 dIx (a4 2) (e2 dIx (eCl D6 (a6 (a4 0) (a6 (a4 5) (a6 (a4 7) b8)))) (eC (.int 1))) (pbT L e A R [eT (i8 [] X),.int s,iD (f s),lD r,x])=cz (.list ((mks L D (i6 L s r).2).map iD)):=by
    have h2:D6 [.list (L.map rwD),.int s,lD r]=cz (.tuple [.list ((i6 L s r).1.map .int),.int (i6 L s r).2]):=a4X w (by lia) (by lia) zu (by lia)
    try walk_at "ev"
    rw[h2]
    try walk_at "ev"
    exact wN _ pf.1 pf.2
   unfold b5t;rw[a6A,a8J,wu];refine a4Y B (stt:=λd x=>pbT L e A R [d,.int s,iD (f s),lD r,x]) (set:=p6 8) (g:=c2O) hX (λd x y=>rfl) (λl q hq hl=>?_) x;obtain⟨DA,Dz⟩:=B.mq hs hr hq;have gK:=(B.way hs).2.1;have uJ:eI (F8 (eI (F8 (a4 6) (a4 7))) (a4 8)) (pbT L e A R [eT l,.int s,iD (f s),lD r,iD q])=cz (.list ((f s++r++q).map .int)):=by
    rw[a4J,a3u,a4J,a3u];show lIs (a5O (lIs (a5O (cz (.list ((f s).map .int))) (cz (.list (r.map .int))))) (cz (.list (q.map .int))))=_;rw[P6 (by lia),a0X,P6 (by rw[av];lia),a0X]
   show A9 4 rp _ _ (pbT L e A R [eT l,.int s,iD (f s),lD r,iD q])=_;rw[a6e (g:=(λ_=>cL rp)) (a:=f s++r++q) (l:=l) rfl (a2C (ds:=(f s++r++q).map .int) uJ (p8 _)) rfl (by lia)];rfl
  have middle:∀(s:Nat),s<L.length->∀(X:List (List Int)),X.length+(rP L D f (m5 k (e+1)) s).length<=3000->∀y x:VS.D,∃y' x',c0K (pbT L e A R [eT (i8 [] X),.int s,iD (f s),y,x])=cz (.nx (pbT L e A R [eT (i8 [] (X++rP L D f (m5 k (e+1)) s)),.int s,iD (f s),y',x'])):=by
   intro s hs X hX y x;unfold c0K;rw[a6A,a8J,show a4 3 (pbT L e A R [eT (i8 [] X),.int s,iD (f s),y,x])=cz R from rfl,hB];show ∃y' x',U7 (p6 7) b5t ((m5 k (e+1)).map lD) _=_;obtain⟨U',g1,y',x',rfl⟩:=t9 (enc:=lD) (set:=p6 7) (xs:=m5 k (e+1)) (g:=b5t) (U:=(pbT L e A R [eT (i8 [] X),.int s,iD (f s),y,x]))
    (λpre U=>∃(y' x':VS.D),U=(pbT L e A R [eT (i8 [] (X++rP L D f pre s)),.int s,iD (f s),y',x'])) ⟨y,x,by rw[show rP L D f [] s=[] from rfl,aX]⟩ (by
     rintro pre r post e1 U ⟨y',x',rfl⟩;have hr:r∈m5 k (e+1):=by rw[e1];simp
     unfold rP at hX;rw[e1]at hX;simp only[bX,dr,av]at hX;obtain⟨x2,i1⟩:=inner s hs r hr (X++rP L D f pre s) (by unfold rP;rw[av];lia) x';refine⟨_,_,rfl,i1,lD r,x2,?_⟩;unfold rP;rw[bX,aH,gh])
   exact⟨y',x',g1⟩
  obtain⟨U',g1,x',y',z',u',rfl⟩:=t9 (enc:=λ(a:Nat)=>dt [.int (a:Int),wyD W a]) (set:=a2S 5 6) (xs:=aw L.length) (g:=c0K) (U:=(pbT L e A R [.dict [],.none,.none,.none,.none]))
   (λpre U=>∃(x y z u:VS.D),U=(pbT L e A R [eT (i8 [] (pre.flatMap (rP L D f (m5 k (e+1))))),x,y,z,u])) ⟨.none,.none,.none,.none,rfl⟩ (by
    rintro pre s post e1 U ⟨x,y,z,u,rfl⟩;have hs:s<L.length:=bu.mp (by rw[e1];simp);unfold PB at hP;rw[e1]at hP;simp only[bX,dr,av]at hP;obtain⟨y2,x2,i1⟩:=middle s hs (pre.flatMap (rP L D f (m5 k (e+1)))) (by lia) z u;refine⟨(pbT L e A R [eT (i8 [] (pre.flatMap (rP L D f (m5 k (e+1))))),.int s,iD (f s),z,u]),_,?_,i1,.int s,iD (f s),y2,x2,?_⟩
    ·rw[(B.way hs).2.2];rfl
    ·rw[bX,gh])
  exact⟨_,g1,x',y',z',u',rfl⟩
 ·rintro U ⟨x,y,z,u,rfl⟩;have hl:=U0 (ps:=PB L D f (m5 k (e+1))) (l:=[]);rw[eS]at hl;generalize i8 [] (PB L D f (m5 k (e+1)))=l at hl;have hc:(m6 (iI (iL (a0p a0s (a4 4)))) [] pt1 tT (eI (G8 (a4 0)))) (pbT L e A R [eT l,x,y,z,u])=cz (.list ((P3 l).map iD)):=by
   refine J7 (enc:=r0) (xs:=P3 l) iD ?_ (by rw[(E9 l).length_eq];lia) λp _=>⟨[r0 p],rfl,?_⟩
   ·rw[a0r (ds:=(P3 l).map r0) ?_ (l5 _ a3P _)];rw[a8J,a7x (g:=(λ_=>cL rp)) (l:=l) rfl (by lia) λp _=>b0q p];rfl
   ·have hi:=p8 p;show eI (G8 (a4 0)) [.tuple (p.map .int)]=_;walk_at "ev"
  try walk_at "ev"
  rw[hc]
  try rfl
def b2i(w:WF m k):E7 [.list (m.map rwD)]=cz (.int (k:Nat)):=by
 have qu:=w.pos;have e0:(rowAt m 0).length=k:=w.row (by lia) (by lia);unfold E7;rw[A7 (by simp[VS.argsOk])];unfold a1B
 try walk_at "ev"
 rw[a2s (by lia) (by lia)]
 try walk_at "ev"
 rw[e0]
 try rfl
def b2j(h1:1<=M)(Ff:M<=30):N3 [.int M,.int 30]=cz .none:=by
 unfold N3;rw[c2v (by simp[VS.argsOk,imm])];unfold a2g
 try walk_at "ev"
 rw[show S8 [.int M]=cz (.bool rp) by unfold S8;rw[A7 (by simp[VS.argsOk])];unfold a3y;walk_at "ev"]
 try walk_at "ev"
 rw[aV h1]
 try walk_at "ev"
 rw[aV Ff]
 try walk_at "ev"
 try rfl
def b2k{m:g9}{k:Nat}(w:WF m k){L:g9}(hL:S6 [.list (m.map rwD)]=cz (.list (L.map rwD)))(C:Can L k){M:Int}{e:Nat}(M1:1<=M)(FP:M<=30)(he:(e:Int)=max (M-(L.length:Int)) 0)(oN:szF L.length k e<=3000)
  {ps:List (List Int)} (sr:B6 [.list (L.map rwD),.int (e:Nat)]=cz (.list (ps.map iD))) (g:b5s k ps) (hl:ps.length<65536) :
  a3C [.list (m.map rwD),.int M]=cz (.list (ps.map λp=>dt [iD p,iD (i6 m 0 p).1])):=by
 have GK:=C.wf.le;have Fc:=C.wf.pos;have qu:=w.pos;have k1:=w.k1;have k5:=w.k5;unfold a3C;rw[A7 (by simp[VS.argsOk])];unfold b4x
 try walk_at "ev"
 rw[b2j M1 FP]
 try walk_at "ev"
 rw[hL]
 try walk_at "ev"
 rw[a8Y,<-he]
 try walk_at "ev"
 rw[b2i w]
 try walk_at "ev"
 rw[b7P _ _ _ (by lia) (by lia) (by lia) (by lia) (by lia) (by lia)]
 try walk_at "ev"
 rw[aZ (by lia)]
 try walk_at "ev"
 rw[sr]
 try walk_at "ev"
 rw[J7 (enc:=iD) (xs:=ps) (λp=>dt [iD p,iD (i6 m 0 p).1]) (by try walk_at "ev") (by lia) λp hp=>⟨[iD p],rfl,?_⟩]
 ·try rfl
 ·show a0F (a6 (a4 0) (a6 (e2 dIx (eCl D6 (a6 (a4 1) (a6 (eC (.int 0)) (a6 (a4 0) b8)))) (eC (.int 0))) b8)) [iD p,.list (m.map rwD)]=_
  try walk_at "ev"
  rw[a4X w (by lia) (by lia) (g p hp).1 (by have:=(g p hp).2;lia)]
  try walk_at "ev"
  try rfl
def b7R(l:List Int)(a:Int)(hl:l.length<=1000):m_law_next [.list (l.map .int),.int a]=cz (.list ((L6 a l).map .int)):=by
 unfold m_law_next;rw[A7 (by simp[VS.argsOk,imm])];unfold b_law_next;walk_at "ev";rw[a0X];walk_at "ev";obtain⟨U',g1,p,j,uw,pf,rfl⟩:=Y6 (c:=(tAn (tB (e2 dGe (a4 2) (eC (.int 0)))) (tB (e2 dEq (e2 a3X (a4 0) (a4 2)) (e2 Y7 (a4 1) (eC (.int 1))))))) (g:=(f7 (b0S 0 (.l .i) y7 (a4 2) (eC (.int 0))) (i5 2 (e2 Y7 (a4 2) (eC (.int 1))))))
  (I:=λj U=>∃p:List Int,l=p++aI j (a-1)/\U=[.list ((p++aI j 0).map .int),.int a,.int ((p.length:Int)-1)])
  (Q:=λU=>∃(p:List Int) (j:Nat),l=p++aI j (a-1)/\(p=[]\/∃p' x,p=p'++[x]/\x≠a-1)/\U=[.list ((p++aI j 0).map .int),.int a,.int ((p.length:Int)-1)]) 1000 (by
   rintro j U ⟨p,hp,rfl⟩;have qB:j<=1000:=by have:=dG dQ hp;simp at this;lia
   refine⟨qB,?_⟩;rcases List.eq_nil_or_concat p with rfl|⟨p',x,rfl⟩
   ·refine .inl ⟨?_,[],j,hp,.inl rfl,rfl⟩;walk_at "ev";rw[aZ (by simp)];walk_at "ev"
   ·rw[List.concat_eq_append]at hp ⊢;have hlen:(((p'++[x]).length:Nat):Int)-1=p'.length:=by simp
    have ou:L2.atI (((p'++[x])++aI j 0).map aP) (p'.length:Int)=cz (.int x):=by
     rw[atI_nums (by lia) (by simp;lia),bH]
     congr 2;rw[aH,ah,bI (az _),fO];rfl
    have sZ:(tAn (tB (e2 dGe (a4 2) (eC (.int 0)))) (tB (e2 dEq (e2 a3X (a4 0) (a4 2)) (e2 Y7 (a4 1) (eC (.int 1)))))) [.list (((p'++[x])++aI j 0).map .int),.int a,.int (((p'++[x]).length:Int)-1)]=cz (decide (x=a-1)):=by
     rw[hlen];walk_at "ev";rw[aV (show (0:Int)<=p'.length by lia)];walk_at "ev";rw[ou];walk_at "ev"
    by_cases c:x=a-1
    ·refine .inr ⟨by rw[sZ,aV c],[.list ((p'++aI (j+1) 0).map .int),.int a,.int ((p'.length:Int)-1)],?_,p',?_,rfl⟩
     ·rw[Z5,hlen,c2w (t:=.i) (ds:=((p'++[x])++aI j 0).map .int) (d:=.int 0) (j:=p'.length) rfl rfl rfl (by lia) (by simp;lia)];walk_at "ev";rw[bH,show aP 0=(λi:Int=>aP i) 0 from rfl,<-List.map_set]
      congr 4;rw[aH,vO _ _ (az _),fO];rfl
     ·rw[hp,c,aH];rfl
    ·exact .inl ⟨by rw[sZ,aZ c],p'++[x],j,hp,.inr ⟨p',x,rfl,c⟩,rfl⟩) 1000000 0 [.list (l.map .int),.int a,.int ((l.length:Int)-1)]
  ⟨l,by simp,by simp⟩ (by lia)
 rw[b7q,g1];walk_at "ev";have qB:j<=1000:=by have:=dG dQ uw;simp at this;lia
 rcases pf with rfl|⟨p',x,rfl,hx⟩
 ·have e:L6 a l=aI j 0++[0]:=by
   rw[uw,a0v,b2e,<-gN];rfl
  rw[aV (by simp),e];walk_at "ev";rw[a3u];walk_at "ev";rw[show a5O (cz (.list ((aI j (0:Int)).map .int))) (cz (.list [.int 0]))=_ from P6 (xs:=aI j 0) (ys:=[0]) (by simp;lia),a0X];rfl
 ·have hlen:(((p'++[x]).length:Nat):Int)-1=p'.length:=by simp
  have ou:L2.atI (((p'++[x])++aI j 0).map aP) (p'.length:Int)=cz (.int x):=by
   rw[atI_nums (by lia) (by simp;lia),bH]
   congr 2;rw[aH,ah,bI (az _),fO];rfl
  have e:L6 a l=p'++[x+1]++aI j 0:=by
   rw[uw,a0v,T8,aM hx]
  rw[hlen,aZ (show ¬ (p'.length:Int)<0 by lia)];walk_at "ev";rw[c2w (t:=.i) (ds:=((p'++[x])++aI j 0).map .int) (d:=.int (x+1)) (j:=p'.length) rfl (by walk_at "ev";rw[ou];walk_at "ev") rfl (by lia) (by simp;lia)];walk_at "ev";rw[bH,e,show aP (x+1)=(λi:Int=>aP i) (x+1) from rfl,<-List.map_set]
  congr 3;rw[aH,vO _ _ (az _),fO,aH];rfl
def c0L{m:g9}{k:Nat}(w:WF m k){s:Int}(s0:0<=s)(s1:s<m.length){p:List Int}(hp:∀x∈p,0<=x/\x<(k:Int)):m_law_end [.list (m.map rwD),.int s,lD p]=cz (.int (i6 m s p).2):=by
 show m_law_end [.list (m.map rwD),.int s,.list (p.map .int)]=_;unfold m_law_end;rw[A7 (by simp[VS.argsOk,imm])];unfold b_law_end;walk_at "ev";rw[a0r (ds:=p.map .int) (by walk_at "ev") (p8 p)];walk_at "ev";refine C0 (λU=>∃x,U=[.list (m.map rwD),.int (i6 m s p).2,.list (p.map .int),x]) ?_ ?_
 ·obtain⟨U',h2,x,rfl⟩:=t9 (enc:=aP) (set:=p6 3) (xs:=p) (U:=[.list (m.map rwD),.int s,.list (p.map .int),.none]) (g:=(i5 1 (e2 p5 (e2 p5 (e2 dIx (a4 0) (a4 1)) (a4 3)) (eC (.int 1)))))
   (λpre U=>∃x,U=[.list (m.map rwD),.int (i6 m s pre).2,.list (p.map .int),x]) ⟨_,rfl⟩ (by
    rintro pre a post e U ⟨x,rfl⟩;have oe:∀b∈pre,0<=b/\b<(k:Int):=λb hb=>hp b (by rw[e];exact ak _ hb)
    have ha:=hp a (by rw[e];simp);have hs:=Y2 w pre s s0 s1 oe;have hr:=w.row hs.1 hs.2;refine⟨_,[.list (m.map rwD),.int (i6 m s (pre++[a])).2,.list (p.map .int),.int a],rfl,?_,_,rfl⟩;walk_at "ev";rw[a2s hs.1 hs.2];walk_at "ev";rw[b1N ha.1 (by lia)];walk_at "ev";rw[R8];rfl)
  exact⟨_,h2,_,rfl⟩
 ·rintro U ⟨x,rfl⟩;walk_at "ev"
def cP(L:g9)(D:Nat)(f:Nat->List Int)(r:List Int):List (List Int):=(aw L.length).flatMap λs=>pP L D f s r
def DU(L:g9)(D:Nat)(f:Nat->List Int)(R:List (List Int)):List (List Int):=R.flatMap (cP L D f)
def c0M{L:g9}{D:Nat}{f:Nat->List Int}{R:List (List Int)}{p:List Int}:p∈DU L D f R↔p∈PB L D f R:=by
 unfold DU PB cP rP;simp only[cx];exact⟨λ⟨r,hr,s,hs,h⟩=>⟨s,hs,r,hr,h⟩,λ⟨s,hs,r,hr,h⟩=>⟨r,hr,s,hs,h⟩⟩
abbrev duT(L:g9)(M:Int)(W:M7)(A:VS.D)(t:List VS.D):List VS.D:=.list (L.map rwD)::.int M::.list (a1J W L.length)::A::t
abbrev c2P:EvS:=(A9 4 rp (a9w (F8 (F8 (e2 dIx (a4 2) (a4 6)) (a4 5)) (a4 7))) (eC (.bool rp)))
abbrev b5u:EvS:=(y6 (iL (e2 dIx (a4 3) (eCl m_law_end (a6 (a4 0) (a6 (a4 6) (a6 (a4 5) b8)))))) (p6 7) c2P)
def c0N{L:g9}{k D:Nat}{W:M7}{f:Nat->List Int}{e:Nat}(B:Bok L k D W f e){M:Int}(hM:(e:Int)=max 0 (M-(L.length:Int)))(hP:(DU L D f (m5 k (e+1))).length<=3000)(hR:(m5 k (e+1)).length<=1000):m_law_due [.list (L.map rwD),.int M,.list (a1J W L.length),.list ((aw L.length).map λ(s:Nat)=>cA ((mks L D s).map iD))]=cz (eT (i8 [] (DU L D f (m5 k (e+1))))):=by
 have w:=B.can.wf;have hle:=w.le;have qu:=w.pos;have hD:=B.dl;have he:=B.e2;have pU:=b5p k w.k1 (e+1);have e0:(rowAt L 0).length=k:=w.row (by lia) (by lia);have wN:∀t:Int,0<=t->t<L.length->dIx (.list ((aw L.length).map λ(s:Nat)=>cA ((mks L D s).map iD))) (.int t)=cz (.list ((mks L D t).map iD)):=λt t0 t1=>a7B t0 t1
 generalize cA ((aw L.length).map λ(s:Nat)=>cA ((mks L D s).map iD))=A at wN ⊢;unfold m_law_due;rw[A7 (by simp[VS.argsOk,imm])];unfold b_law_due;walk_at "ev";have row:∀r∈m5 k (e+1),∀(X:List (List Int)),X.length+(cP L D f r).length<=3000->∀x y:VS.D,∃x' y',(y6 (iR (eCl z0 (a6 (a4 0) b8))) (p6 6) b5u) (duT L M W A [eT (i8 [] X),lD r,x,y])=cz (.nx (duT L M W A [eT (i8 [] (X++cP L D f r)),lD r,x',y'])):=by
  intro r hr X hX x y;have zu:=a3R k _ r hr;have wD:=a1f k _ r hr;rw[a6A,b0W (n:=L.length) (by walk_at "ev") (by lia) (by lia),bH];obtain⟨U',g1,x',y',rfl⟩:=L1 (n:=L.length) (set:=p6 6) (g:=b5u) (U:=(duT L M W A [eT (i8 [] X),lD r,x,y]))
   (λj U=>∃x' y',U=(duT L M W A [eT (i8 [] (X++(aw j).flatMap λs=>pP L D f s r)),lD r,x',y'])) ⟨x,y,by rw[List.range_zero,gW,aX]⟩ (by
    rintro s hs U ⟨x',y',rfl⟩;have pf:=B.fin hs hr;have Di:=B.way hs;have wu:∀d z,e2 dIx (a4 3) (eCl m_law_end (a6 (a4 0) (a6 (a4 6) (a6 (a4 5) b8)))) (duT L M W A [d,lD r,.int s,z])=cz (.list ((mks L D (i6 L s r).2).map iD)):=λd z=>by
     have h2:=c0L w (s:=(s:Int)) (by lia) (by lia) zu;walk_at "ev";rw[h2];walk_at "ev";exact wN _ pf.1 pf.2
    unfold cP at hX;rw[a4V hs,bX,dr]at hX;simp only[av]at hX;obtain⟨y2,i1⟩:=a4Y B (stt:=λd z=>duT L M W A [d,lD r,.int s,z]) (set:=p6 7) (g:=c2P) (s:=s) (r:=r) (X:=X++(aw s).flatMap λs=>pP L D f s r) (by rw[av];lia) (λd x y=>rfl) (λl q hq hl=>by
     have Dz:=(B.mq hs hr hq).2;have Dk:dIx (.list (a1J W L.length)) (.int s)=cz (iD (f s)):=by
      show L2.atI (a1J W L.length) s=_;rw[b7I (by lia) (by lia),bH,Di.2.2]
     have uJ:F8 (F8 (e2 dIx (a4 2) (a4 6)) (a4 5)) (a4 7) (duT L M W A [eT l,lD r,.int s,iD q])=cz (.list ((f s++r++q).map .int)):=by
      rw[a3u,a3u,v_2];show a5O (a5O (dIx (.list (a1J W L.length)) (.int s)) (cz (.list (r.map .int)))) (cz (.list (q.map .int)))=_;rw[Dk,P6 (by lia),P6 (by rw[av];lia)]
     show A9 4 rp _ _ (duT L M W A [eT l,lD r,.int s,iD q])=_;rw[a6e (g:=(λ_=>cL rp)) (a:=f s++r++q) (l:=l) rfl (by unfold a9w;rw[uJ];rfl) rfl (by lia)];rfl) y'
    refine⟨_,(duT L M W A [eT (i8 [] (X++(aw (s+1)).flatMap λs=>pP L D f s r)),lD r,.int s,y2]),rfl,?_,_,_,rfl⟩;show b5u (duT L M W A [eT (i8 [] (X++(aw s).flatMap λs=>pP L D f s r)),lD r,.int s,y'])=_;unfold b5u;rw[a6A,a8J,wu];rw[ic,bX,gh,<-aH];exact i1)
  exact⟨x',y',g1⟩
 refine C0 (λU=>∃x y z:VS.D,U=(duT L M W A [eT (i8 [] (DU L D f (m5 k (e+1)))),x,y,z])) ?_ ?_
 ·refine Y6 (c:=(tB (e2 dLe (eCl z0 (a6 (a4 5) b8)) (e2 G6 (eCl (z7 rp) (a6 (eC (.int 0)) (a6 (e2 Y7 (a4 1) (eCl z0 (a6 (a4 0) b8))) b8))) (eC (.int 1)))))) (g:=(f7 (y6 (iR (eCl z0 (a6 (a4 0) b8))) (p6 6) b5u) (i5 5 (eCl m_law_next (a6 (a4 5) (a6 (eCl z0 (a6 (e2 dIx (a4 0) (eC (.int 0))) b8)) b8)))))) (I:=λj U=>∃(pre post:List (List Int)) (mid:List Int) (x y:VS.D),m5 k (e+1)=pre++post/\pre.length=j/\Ch k [] pre mid/\U=(duT L M W A [eT (i8 [] (DU L D f pre)),lD mid,x,y])) (m5 k (e+1)).length ?_ 1000000 0 _ ⟨[],_,[],.none,.none,rfl,rfl,rfl,rfl⟩ (by lia);rintro j U ⟨pre,post,mid,x,y,vo,hj,hc,rfl⟩;have tF:(tB (e2 dLe (eCl z0 (a6 (a4 5) b8)) (e2 G6 (eCl (z7 rp) (a6 (eC (.int 0)) (a6 (e2 Y7 (a4 1) (eCl z0 (a6 (a4 0) b8))) b8))) (eC (.int 1))))) (duT L M W A [eT (i8 [] (DU L D f pre)),.list (mid.map .int),x,y])=cz (decide ((mid.length:Int)<=(e:Int)+1)):=by
   rw[hM]
   repeat (first|rw[a8Y]|walk_at "ev")
  have qB:j<=(m5 k (e+1)).length:=by rw[vo,av];lia
  refine⟨qB,?_⟩;cases post with
  |nil=>
   rw[aX]at vo;rw[<-vo]at hc ⊢;have e1:=hc.det pU;subst e1;refine .inl ⟨?_,_,_,_,rfl⟩;refine Eq.trans tF ?_;rw[fG,aZ (by lia)]
  |cons r post=>
   have hr:r∈m5 k (e+1):=by rw[vo];simp
   have wD:=a1f k _ r hr;rw[vo]at pU hP;obtain⟨s',c1,c2⟩:=pU.cut;have e1:=hc.det c1;subst e1;have e2:r=mid:=c2.1;subst e2;unfold DU at hP;rw[bX,dr]at hP;simp only[av]at hP;obtain⟨x',y',i1⟩:=row r hr (DU L D f pre) (by unfold DU;lia) x y;refine .inr ⟨Eq.trans tF (by rw[aV (by lia)]),(duT L M W A [eT (i8 [] (DU L D f (pre++[r]))),lD (L6 k r),x',y']),?_,pre++[r],post,L6 k r,x',y',by rw[vo,aH];rfl,by rw[av,hj];rfl,hc.snoc,rfl⟩;have hn:=b7R r k (by lia);rw[Z5,i1,a5y];unfold DU;rw[bX,gh];show i5 5 _ (duT L M W A [_,.list (r.map .int),x',y'])=_
   repeat (first|rw[a2s (m:=L) (s:=0) (by lia) (by lia)]|rw[e0]|rw[hn]|walk_at "ev")
   rfl
 ·rintro U ⟨x,y,z,rfl⟩;walk_at "ev"
theorem b0t:∀(ks ms:List (List Int)),(ms++ks).Nodup->a0W ms ks=ms++ks
 |[],ms,_=>by rw[a0W,aX]
 |k::ks,ms,h=>by
  have hk:k∉ms:=λz=>(bV.mp h).2.2 k z k aK rfl
  rw[a0W,aM hk,b0t ks (ms++[k]) (by rw[aH];exact h),aH];rfl
def b7S{ks:List (List Int)}(h:a U=cz (.list (ks.map r0)))(hn:ks.Nodup)(hl:ks.length<=300):W4 a U=cz (.int (ks.length:Nat)):=by
 unfold W4;rw[h];show (a4H rp (ks.map r0)).bind _=_;rw[a0u,eF,aE hl,b0t ks [] hn,bT]
def c0O:dIn neg rp (r0 a) (.dict (M8 g l))=cz (.bool (neg !=decide (a∈l))):=by
 show (if n6 rp (r0 a) then cz (cL (neg !=D8 (M8 g l) (r0 a))) else p4)=_;rw[a4W,a1K];rfl
def c2Q(n k e:Nat):Bool:=decide (8<n*k\/3<k->e<=1)&&decide (5<n->e=0/\k<=2)&&decide (3<k->n<=2)
def c2R(l k e:Nat):Bool:=decide (l*((m5 k (e+1)).length*max 1 (l-1))<=300)&&decide (szF (l:Nat) (k:Nat) (e:Nat)<=3000)&&decide (k^(e+1)<=3125)&&decide ((m5 k (e+1)).length<=1000)
def c0P:∀n,n<11->∀l,l<n+1->∀k,k<6->∀e,e<3->c2Q n k e=rp->c2R l k e=rp:=by decide +kernel
def Bok.countD{L:g9}{k D:Nat}{W:M7}{f:Nat->List Int}{e:Nat}(B:Bok L k D W f e):(DU L D f (m5 k (e+1))).length<=L.length*((m5 k (e+1)).length*max 1 (L.length-1)):=by
 have h:=X2 (l:=m5 k (e+1)) (f:=cP L D f) (c:=L.length*max 1 (L.length-1)) λr hr=>by
  have h:=X2 (l:=aw L.length) (f:=λs=>pP L D f s r) (c:=max 1 (L.length-1)) λs hs=>by
   unfold pP;rw[af];exact a7A B.can.wf (B.fin (bu.mp hs) hr).1 (B.fin (bu.mp hs) hr).2
  rw[bB]at h;exact h
 rw[Nat.mul_left_comm];exact h
abbrev lwT(ns:List Int)(m L:g9)(M:Int)(l:List (List Int))(t:List VS.D):List VS.D:=.list (ns.map .int)::.list (m.map rwD)::.list (L.map rwD)::.int M::eT l::t
def law_true(ns:List Int)(su:ns.length<=63):m_law [.list (ns.map .int)]=cz (.bool rp):=by
 obtain⟨m,k,DW,w,Gr,CU,km⟩:=a6j ns;obtain⟨L,hL,CL,SL,Lm⟩:=b2a w;obtain⟨D,rf,hD,_⟩:=b5m CL.wf;obtain⟨W,hA,hw⟩:=b7J CL.wf;have k5:=w.k5;have Fc:=CL.wf.pos;obtain⟨f,hf⟩:∃f:Nat->List Int,∀s:Nat,s<L.length->((s:Int),f s)∈W:=by
  have h:∀s:Nat,∃p,s<L.length->((s:Int),p)∈W:=λs=>by
   by_cases c:s<L.length
   ·obtain⟨⟨t,p⟩,hp,e⟩:=aG.mp (b2g CL hA s c);have e:t=(s:Int):=e;subst e;exact⟨p,λ_=>hp⟩
   ·exact⟨[],λz=>absurd z c⟩
  exact Classical.axiomOfChoice h
 obtain⟨x,hx,x0,x1,x2,x3⟩:=b5q ns w;obtain⟨M,hM⟩:∃M:Int,max 1 ((L.length:Int)+x)=M:=⟨_,rfl⟩;obtain⟨e,he⟩:∃e:Nat,(e:Int)=max 0 (M-(L.length:Int)):=⟨(max 0 (M-(L.length:Int))).toNat,by lia⟩;have B:Bok L k D W f e:=⟨CL,rf,hD,hA,hw,hf,by lia⟩;have uH:=c0P m.length (by lia) L.length (by lia) k (by lia) e (by lia) (by
  unfold c2Q;simp only[aL,kC];exact⟨⟨λz=>by have:=x2 z;lia,λz=>⟨by have:=x3 z;lia,CU z⟩⟩,km⟩)
 unfold c2R at uH;simp only[aL,kC]at uH;obtain⟨⟨⟨f1,f2⟩,f3⟩,f4⟩:=uH;have c1:=B.count;have c2:=B.countD;have hp:=b2h B (by lia) f3;have z_:=c0N B he (by lia) f4;have l1:=U0 (ps:=PB L D f (m5 k (e+1))) (l:=[]);have n1:=a1L (ps:=PB L D f (m5 k (e+1))) bE;have n2:=a1L (ps:=DU L D f (m5 k (e+1))) bE;have g:=B.good;have iN:∀p,p∈i8 [] (PB L D f (m5 k (e+1)))↔p∈PB L D f (m5 k (e+1)):=λp=>by rw[T9];simp
 have heq:(i8 [] (PB L D f (m5 k (e+1)))).Perm (i8 [] (DU L D f (m5 k (e+1)))):=(rR n1 n2).mpr λp=>by rw[T9,T9,c0M]
 rw[eS]at l1;have g1:b5s k (P3 (i8 [] (PB L D f (m5 k (e+1))))):=λp hp=>g p ((iN p).mp ((E9 _).mem_iff.mp hp))
 generalize i8 [] (PB L D f (m5 k (e+1)))=l at *;generalize i8 [] (DU L D f (m5 k (e+1)))=l2 at *;have hs:=E9 l;have b1:=b2k w hL CL (M:=M) (by lia) (by lia) (by lia) f2 hp g1 (by rw[hs.length_eq];lia);generalize P3 l=ps at *;have Ef:ps.length<=300:=by rw[hs.length_eq];lia
 have zL:ps.length=l2.length:=by rw[hs.length_eq,heq.length_eq]
 have lF:∀p∈ps,p∈l2:=λp h=>heq.mem_iff.mp (hs.mem_iff.mp h)
 have qA:ps.Nodup:=hs.nodup_iff.mpr n1;have hle:=w.le;have qu:=w.pos;have BD:∀U:List VS.D,a4 1 U=cz (.list (m.map rwD))->m6 (iL (a4 1)) [] pt1 tT (eI (G8 (a4 0))) U=cz (.list (m.map rwD)):=λU h=>c0y (m:=m) h (by lia)
 unfold m_law;rw[A7 (by simp[VS.argsOk])];unfold b_law
 repeat (first|rw[DW]|rw[BD _ rfl]|rw[hL]|rw[hx]|rw[a8Y]|rw[hM]|rw[hw]|rw[rf]|rw[z_]|walk_at "evc")
 have hc:m6 (iL (eCl a3C (a6 (m6 (iL (a4 1)) [] pt1 tT (eI (G8 (a4 0)))) (a6 (a4 3) b8)))) [] pt2 tT (O6 (a4 0)) (lwT ns m L M l2 [.none,.none])=cz (.list (ps.map r0)):=by
  refine J7 (enc:=λp=>dt [iD p,iD (i6 m 0 p).1]) (xs:=ps) r0 ?_ (by lia) λp _=>⟨[iD p,iD (i6 m 0 p).1],rfl,?_⟩
  ·repeat (first|rw[BD _ rfl]|rw[b1]|walk_at "evc")
  ·exact a2C (ds:=p.map .int) rfl (p8 p)
 rw[hc];have hz:∀U:List VS.D,a4 5 U=cz (.list (ps.map r0))->W4 (a4 5) U=cz (.int (ps.length:Nat)):=λU h=>b7S h qA (by lia)
 have vD:a3b [eT l2]=cz (.int (l2.length:Nat)):=by rw[b4E,a7u]
 have DL:decide ((l2.length:Int)=(l2.length:Int))=rp:=aV rfl
 repeat (first|rw[hz _ rfl]|rw[zL]|rw[vD]|rw[DL]|walk_at "evc")
 rw[a0r (ds:=ps.map r0) (by walk_at "evc") (l5 _ a3P _)];refine C0 (λU=>True) ?_ ?_
 ·obtain⟨U',g1,_⟩:=t9 (enc:=r0) (set:=p6 6) (xs:=ps) (g:=(sIf (tB (e2 (dIn rp rp) (a4 6) (a4 4))) (v5 (eC (.bool xn))) E3)) (U:=(lwT ns m L M l2 [.list (ps.map r0),.none]))
   (λ_ U=>∃y,U=(lwT ns m L M l2 [.list (ps.map r0),y])) ⟨_,rfl⟩ (by
    rintro pre p post e1 U ⟨y,rfl⟩;have hi:=aV (lF p (by rw[e1];simp));refine⟨_,(lwT ns m L M l2 [.list (ps.map r0),r0 p]),rfl,?_,_,rfl⟩;show (sIf (tB (e2 (dIn rp rp) (a4 6) (a4 4))) (v5 (eC (.bool xn))) E3) (lwT ns m L M l2 [.list (ps.map r0),r0 p])=_
    repeat (first|rw[c0O]|rw[hi]|walk_at "evc"))
  exact⟨_,g1,trivial⟩
 ·rintro U _;walk_at "evc"
def c0Q{l:qF}{w:bQ}{K:ag}{mg:bM->Option ai}{fa:aC}(zY:mg "law"=cz (.ref fa))(b:Bn K mg)(lE:(A0 K "ways_by_state").isSome=rp)
  : ∃fd:dU,(∀(s:ao) (v:ai),oR s fd ⟨[v],[]⟩ [("_law_script",v)])/\∀base:cM,K.In base->base.Ns bU mg->FnOk l.prog w K mg base CX0 8 fa fd ["_law_script"] (spD K 1 m_law .i):=c0p zY b.d32 λbase KB GB fd F=>by
 have B:Bk l.prog w K mg base:=⟨b⟩;have cZ:=ok_law_mixed B;have jW:=ok_law_drawn B cZ.u;have iV:=ok_law_machine B cZ.u jW.u;have gz:=Y8 B;have d_:=a4e B;have hU:=a3v B d_.u;have gD:=a5P B hU.u;have jT:=a5Q B;have eU:=a1z B jT.u lE KB GB;have lK:=a8M B eU.u;have ko:=b4s B gz.u d_.u gD.u lK.u;have kK:=ok_law_next B;have lN:=ok_law_end B;have lP:=ok_law_due B kK.u lN.u;have lI:=b7l B eU.u;have lM:=b7m B;have iU:=a3x B lM.u;have ig:=a1A B;have iy:=a2t B d_.u ig.u;have jz:=a4f B iy.u;have nL:=b4v B gD.u jz.u;have kl:=b4w B iU.u nL.u;have jV:=ok_law_extra B cZ.u;have kL:=a7m B;have jU:=a5T B kL.u;have gZ:=a1b B;have lJ:=a8P B gZ.u;have iq:=a8Q B;have je:=b1O B;have iW:=a3B B lI.u lM.u kl.u lJ.u iq.u je.u;have jX:=a5U B;have pC:=b7n B ko.u jU.u iq.u je.u iW.u jX.u;exact ok_law B iV.u ko.u lP.u lI.u kl.u jV.u pC.u F
end Prog
namespace PySem.W.Fast
def tw7209902249418516762:=0
def tw1670008308851881999:=0
def tw13492245015041197770:=0
def tw18233543262563471425:=0
def tw15648072723742532483:=0
def tw14001664811107792936:=0
def tw12852346064030715800:=0
def tw8381189964445174421:=0
def tw16958271865442054373:=0
def tw2338713676728424188:=0
def tw9725345254081283098:=0
def tw16531411274063963366:=0
def tw11900456598689747863:=0
def tw8861190801909047553:=0
def tw11277458060087969656:=0
def tw10033451224331181946:=0
def tw9001392675194427935:=0
def tw3412195054426183291:=0
def tw15168235453645323883:=0
def tw18390150461779216541:=0
def tw7740768786314708016:=0
def tw11438415316811937074:=0
def tw6327416425271283212:=0
def tw13006970712367040219:=0
def tw16339385445869884089:=0
def tw17213663402725233122:=0
def tw4086251426828318771:=0
def tw2087550402956571161:=0
def tw11277729024490331505:=0
def tw6301756174222825081:=0
def tw5232677637440688380:=0
def tw10838999491352484756:=0
def tw2120412418523465944:=0
def tw5158618150827058756:=0
def tw16176623801788403492:=0
def tw13120389573800250382:=0
def tw10648686512295149535:=0
def tw18383453497101892704:=0
def tw18176240783154250580:=0
def tw15203502769215317640:=0
def tw13708469255867234529:=0
def tw505947305682529501:=0
def tw12966079996493867101:=0
def tw3275265495852310241:=0
def tw6467652190826337530:=0
def tw12673301698285635988:=0
def tw6634944657858262265:=0
def tw1847568653544723053:=0
def tw5603129673699586776:=0
def tw7778474740931516762:=0
def tw5111956176445446457:=0
def tw4059193806226511897:=0
def tw5911091317867694559:=0
def tw8911670123055447692:=0
def tw2772102835495112116:=0
def tw12063572730873616154:=0
def tw9843252566254116954:=0
def tw7282908794343811856:=0
def tw17753581128935435340:=0
def tw2921557250626490638:=0
def tw13583729903678555496:=0
def tw8041308134403251878:=0
def tw11181785707816298036:=0
def tw9359379312987463363:=0
def tw3110575910913898266:=0
def tw14165214584554132756:=0
def tw16714901397870362370:=0
def tw13589180675640607097:=0
def tw13654201483301807625:=0
def tw14471858879831206035:=0
def tw7162273439994234811:=0
def tw13057239467846764078:=0
def tw11341004150181354180:=0
def tw5627844234182017728:=0
def tw4184093565976227522:=0
def tw16681653843159347253:=0
def tw14952572733968450018:=0
def tw8265266830540140412:=0
def tw340190195648085114:=0
def tw11848147356488770883:=0
def tw2552021980020710359:=0
def tw1406919684875217732:=0
def tw3908764965467106735:=0
def tw6616260550810387152:=0
def tw17314524382043626830:=0
def tw14689266219667547434:=0
def tw12442736271314354551:=0
def tw5258589420126791549:=0
def tw2790919299341617355:=0
def tw9870789742050208382:=0
def tw14809321825981927680:=0
def tw9522298865157433779:=0
def tw7713286002767713499:=0
def tw674166452261906241:=0
def tw12339314946505923793:=0
def tw1898514392005627875:=0
def tw8420745290102797774:=0
def tw13493966872825661076:=0
def tw2518909011633144076:=0
def tw4803501119054857700:=0
def tw2116532696009169364:=0
def tw4998452923632904322:=0
def tw10654172335400728678:=0
def tw16558806741967028107:=0
def tw3681838779306599869:=0
def tw3236207876625133867:=0
def tw858008353594909832:=0
def tw16263325116221127627:=0
def tw14449063612689210342:=0
def tw10253127511289228232:=0
def tw11324310110384324858:=0
def tw13309865465236005475:=0
def tw808961396747211199:=0
def tw16543486555034415763:=0
def tw6366387354737127087:=0
def tw17463869885423418284:=0
def tw1530888452156446078:=0
def tw18083654754006889023:=0
def tw8743071419608109735:=0
def tw6427203101134938655:=0
def tw10939636686292886002:=0
def tw8445282541124658264:=0
def tw15491335515028719397:=0
def tw10796343140833761224:=0
def tw3653784582316154175:=0
def tw11649408131236076263:=0
def tw9171032106097601243:=0
def tw15986612548148946793:=0
def tw17208338261835435723:=0
def tw12791595166271384697:=0
def tw6888818878849562055:=0
def tw8659052050907396622:=0
def tw16759047051533474853:=0
def tw10191343136260709203:=0
def tw13022827227112041493:=0
def tw4417422559219254170:=0
def tw5608885198520884567:=0
def tw14719680996127376029:=0
def tw9473371193651946088:=0
def tw2677031208276397573:=0
def tw10134479692484683914:=0
def tw6967966638796976120:=0
def tw12734672886046565200:=0
def tw10697999102046335006:=0
def tw11020902509224747966:=0
def tw11224953463478442020:=0
def tw7714449801126985610:=0
def tw1723136785378272717:=0
def tw3518419423176400935:=0
def tw14061506873803215202:=0
def tw14040601936860438627:=0
def tw18328663593785885599:=0
def tw9839896351934866943:=0
def tw2555444897581454721:=0
def tw10568493877231671823:=0
def tw14527719017816998095:=0
def tw13394938340133273185:=0
def tw11559962830996646725:=0
def tw3729091191893648451:=0
def tw5063877369816378525:=0
def tw567842708143259563:=0
def tw4178386176278289678:=0
def tw15897517648976987643:=0
def tw4737429972616944380:=0
def tw18045329317788784630:=0
def tw4638715296647777978:=0
def tw10867017463472536919:=0
def tw15743835950574831759:=0
def tw13862865590024213845:=0
def tw4201790280111776717:=0
def tw14622725802380589458:=0
def tw5609416149499337289:=0
def tw16176833908995878068:=0
def tw18389598010170357913:=0
def tw5107123400206771651:=0
def tw10257110847895669101:=0
def tw10635248103616736619:=0
def tw18396742963428983639:=0
def tw14250906998520959291:=0
def tw11143332672015136367:=0
def tw6836323322601531041:=0
def tw18179363317191269842:=0
def tw8024682885185985057:=0
def tw7247933121838703654:=0
def tw17059269933386341532:=0
def tw6838500936565921525:=0
def tw2102895652455450396:=0
def tw3331793194796043531:=0
def tw11502949839573833976:=0
def tw7111781373946788750:=0
def tw1646424911564257076:=0
def tw18253028498059143555:=0
def tw15602306019131402785:=0
def tw10855413590867136261:=0
def tw14579472244035177709:=0
def tw15386970818368431761:=0
def tw4899078126285921781:=0
def tw16142132916742837123:=0
def tw14788060656141028954:=0
def tw16333437635038236353:=0
end PySem.W.Fast
end
open PySem.W PyProof.Rows
set_option maxRecDepth 100000 in
set_option maxHeartbeats 0 in
theorem PySem.Challenge.cw_probewell_k54_probes_of_a_book_holds : PySem.Challenge.rw_probewell_k54_probes_of_a_book.Holds := by
 w_on;o_law;k_head;(case hw=>w_witness2)
 k_fill
 refine VS.b0U (k:=8) (x:="_law_script") (m:=Prog.m_law) (l:=PySem.Challenge.rw_probewell_k54_probes_of_a_book) rfl rfl ⟨rfl,by decide,by decide⟩ (fun w h yn=>by first|exact PySem.W.kIn_of yn|exact PySem.W.km_in_of yn) (fun w=>by kernel_rfl) ?F Prog.law_true
 case F=>
  intro w mg fa h KX G hmg
  refine' Prog.c0Q hmg ?b ?_
  case b=>
   constructor
   iterate 33 (refine' VS.c2f KX G ?a ?l ?c ?k;(case a=>k_is);(case l=>k_is);(case c=>k_is);(case k=>k_is))
   iterate 13 (refine' PySem.W.mg_none_of KX G ?_;k_is)
   iterate 2 (refine' VS.c3D KX G ?a;(case a=>k_is))
  kernel_rfl
