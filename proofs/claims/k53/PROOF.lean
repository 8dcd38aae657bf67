import PyProof.Rows.All
import Wide.All
import OpenK.AllK
import Wide.FinOn
import Lean
import PyProof.EqAt
import PyProof.EqKinds
import PyProof.TupleCall
import KE.KLam
import PyProof.WalksEnum
import PyProof.EnumMake
import PyProof.Rows.SortWalk
import PyProof.Rows.SetFrom
import PyProof.SetRoads
import PyProof.DictTable
import PyProof.ListRange
import PyProof.DictWalks
import PyProof.DictUpdate
import KE.KSortTup
import KE.KDictSum
import KE.KSortKey
import PySem.Challenge.RW_probewell_k53_answers_of_a_book
set_option Elab.async false
set_option linter.all false
set_option maxRecDepth 100000
set_option compiler.extract_closed false
set_option bootstrap.genMatcherCode false
noncomputable section
open Option renaming some->cz,none->xn
open Bool renaming true->yn,false->yp
open List renaming getElem?_eq_getElem->ab,getD_eq_getElem?_getD->af,mem_append_right->ah,length_map->ai,mem_append_left->aj,mem_append->ao,mem_singleton->aq,mem_cons_of_mem->aw,map_cons->ax,range->az,length_append->aA,mem_cons->aD,mem_map->aI,mem_cons_self->aL,getElem?_eq_some_iff->aM,append_assoc->aN,map_append->aO,getElem?_map->aQ,length_cons->aS,replicate->aT,append_nil->bb,size_toArray->be,cons_append->bp,mem_of_getElem?->bt,nodup_append->bu,nil_append->bx,map_map->bC,nodup_nil->bD,length_range->bF,count_append->bG,map_congr_left->bH,getElem?_set_ne->bI,mem_range->bT,nodup_cons->bY,idxOf_lt_length_iff->cm,getElem?_append_right->cu,length_singleton->cx,map_singleton->cy,mem_flatMap->cQ,map_nil->cZ,mem_iff_getElem?->c_,mem_map_of_mem->de,getElem_mem->dm,pairwise_append->dt,nodup_iff_count->du,getElem?_append_left->dw,drop_eq_getElem_cons->dA,zip_cons_cons->dB,getElem_map->dF,pairwise_singleton->dJ,getElem?_set_self->dO,mem_filterMap->dW,getElem_idxOf->dX,length_take->dZ,length->d_,any_eq_false->eA,getD_cons_succ->eB,flatMap_append->eD,count_cons->eF,all_eq_true->eK,length_eq_zero_iff->eU,count_pos_iff->fA,count_eq_zero->fB,mem_filter->fF,flatMap_cons->fL,getElem?_range->fT,lookup_cons->fV,set_cons_succ->f_,pairwise_cons->gc,length_nil->gh,length_replicate->gn,length_drop->gH,drop_length->gI,replicate_zero->gN,length_set->gU,getElem?_inj->iq,take_append_drop->iH,getElem?_eq_none->iJ,flatMap_nil->iS,ext_getElem->iT,mem_iff_getElem->jc,range_succ->jr,of_mem_zip->jt,find?_cons->ju,replicate_succ->jx,extract_eq_take_drop->jZ,reverse_cons->kg,idxOf_append->kh,foldl_append->ki,ext_getElem?->kj,sublist_append_left->kE,getElem?_take_of_lt->kF,take_of_length_le->kZ,tail->mj,getD_cons_zero->mG,filterMap_cons->mH,zip_nil_right->nu,set_cons_zero->nv,getElem_range->ny,find?_eq_none->nz,zip_nil_left->n_,pairwise_map->oe,take_length->oO,any_eq_true->oP,drop_append_of_le_length->pC,take_range->pO,length_zip->pP,forIn_cons->pQ,perm_append_singleton->qP,forIn_nil->qQ,sublist_append_right->rh,pairwise_iff_getElem->rl,getElem?_zip_eq_some->rm,set_comm->sf,map_take->sg,getElem?_replicate->sR,set_set->ui,range_succ_eq_map->uj,pairwise_lt_range->uk,map_id'->um,perm_append_comm->uV,pairwise_reverse->uW,contains_iff_mem->uX,count_cons_self->xa,toList_toArray->xW,take_set_of_le->xX,map_eq_nil_iff->xY,drop_set_of_lt->xZ,getElem?_drop->Am,filterMap_map->An,take_add_one->BW,getElem_drop->BX,nil_sublist->Fi,map_flatMap->Fj,countP_cons->Fk,foldl_cons->Gu,countP_map->Gv
open PySem renaming wpAny_bind->ae,Value->ak,Shared->ar,starEach->au,Addr->av,wpAny_pure->aE,model->aV,wpAny->aX,sizeLine->aZ,PyData->bj,Program->bB,Str->bE,Around->bS,mainGlobals->bV,World->bZ,mem_of_lookup->cA,compareOp->cC,eval->cK,backTo->cM,Heap->cS,sizeLine_eq->cX,wpAny_holding->cY,sysModules->dr,keywordEach->dD,foldedSetIterable->dM,cLine->dQ,FuncData->dS,wpAny_mono->dU,attributeBase->dY,wpAny_call_entry->et,Keyword->eO,swapsWith->eR,backToKw->eX,wpAny_truthy_bool->fm,Paired->fR,Pos->fW,Obj->fY,wpAny_callSpecial?_slot->gf,binaryOp->gg,wpAny_typeNameOfWhole_keyiter->gu,wpAny_Call_Name_kw->gx,wpAny_specialOf->gA,wpAny_passesOwn->gB,Scope->gC,wpAny_dictEntries->gJ,assignEach->gR,intKind->gW,codeAny->gX,bootBuiltins->gY,DictEntry->hJ,wpAny_typeNameOf_keyiter->ie,plainId_quiet->ig,behindInMarks->ik,wpAny_updateSeq->iw,wpAny_ite_split->iy,wpAny_rule->iA,rawInt->iB,Stmt->iE,wpAny_newObj_type->iV,codeAny_mono->iX,ReadsAll->iZ,NameKind->i_,sliceBounds->jI,TriplesOk->kH,builtinsNs->kL,wpAny_standAt->lC,assign->lG,wpAny_isInstance->lP,wpAny_eqBool_int->lQ,codeAmong->lX,richCompare_meets_room->ml,relabel->mo,wpAny_execs_nil->mM,letOwnedTupleGo->mN,codeAny_builtin->mT,wpAny_notOrdered_dict->mW,richCompare->nF,updateSeq->oh,holding->oq,callerA->ou,PassesOwn->ow,BindsTo->ox,Arguments->oy,Env->oQ,wpAny_attempt->oS,numAt->oV,closureFor->pL,wpAny_typeOf->pV,getItem->qL,bindArgs->qM,ItemsOf->qR,wpAny_forIn_list->rA,wpAny_letGo->so,subscripted->sr,wpAny_dictEpoch->sV,wpAny_seqItems->uY,wpAny_call->uZ,pyNext->ve,dictSetDefault->wR,wpAny_comprehension_free->yd,swapsWithSole->yf,swappedStores->yg,Sem->Af,call->Ah,bindL->BO,bindC->BP,wpAny_Call_method_late->Cc,standAt->Cn,setItem->Co,isTrue->CJ,dictGet->EY,Fin->Ff,wpAny_isOneOf_keyiter->Fp
open PySem.W renaming Frag->ag,kia_one->df,kitOne->eQ,kla_obj->eV,keepIn->fU,fnOf->fX,CodeHd->gD,nsIn->gG,envX->jD,findIn->jT,mg_of->kz,codeIn->lZ,kas_item->mq,methodObj->nU,kitx_list->nV,kitx_dict->nW,instObj->pM,lookIn->qN,cellsFrom_some->ue,kitx_tuple->Ai,callWith_K->Aj,specialIn->BS,plainGet->Fe,OpenLaw->Gs
open Nat renaming le_refl->ay,lt_of_lt_of_le->bo,ne_of_lt->bP,le_trans->cF,zero_le->cG,lt_or_ge->dH,lt_irrefl->dR,le_of_lt->eN,lt_of_le_of_lt->fZ,add_assoc->gj,zero_add->ip,min_eq_left->jq,sub_self->jE,ne_of_gt->jF,lt_trans->jG,add_comm->jH,min_le_left->ly,le_succ_of_le->nZ,mul_le_mul->qO,min_self->ug,le_of_eq->uh,pow_le_pow_right->wZ,le_succ->w_,lt_succ_self->Fh
open Bool renaming and_eq_true->aC,false_eq_true->br,false_ne_true->bU,and_self->er,eq_false_iff->fN,and_true->fQ,beq_eq_decide_eq->gr,not_true->gS,or_eq_true->lA,true_and->mU
open PySem.PyData renaming eqv->aF,int->aK,canLayAll0->aY,eqvAll->bN,list->b_,canLay0->cE,tuple->cI,bool->cV,depthAll->cW,depth->dN,none->iG
open PySem.Heap renaming get?_push_of_some->aG,lt_size->aU,get?_push_size->bh,get?_update_self->cJ,get?_update_other->dG,SameBut->mJ
open Option.some renaming inj->aH,injEq->nX
open Array renaming length_toList->aP,getElem?_eq_getElem->bA,getElem?_toList->bR,getElem_toList->bW,toList_push->cw,getElem_extract->dP,getD_eq_getD_getElem?->fg,perm_iff_toList_perm->fD,getElem?_eq_none->gd,toList_extract->gE,ext'->hU,append_empty->hX,mem_toList_iff->je,forIn_toList->jU,append_assoc->jV,getElem_mem_toList->kG,toList_reverse->ma,toList_append->mL,size_extract->nB,push_eq_append_singleton->oR,getElem?_eq_some_iff->qS,toArray_toList->xf,getD->Aq
open PyProof.Rows renaming wpS_bind->aR,arrOf->a_,wpS_pure->ba,Keyed->bQ,pendingOf->cD,SortSt->dq,wpS_forRange->dI,SortKind->eY,wpS_mono->fO,failedOf->fP,callWith_type1->gw,seqObj->iz,envOfC->jv,IntsAre->l_,wpS_modify->me,wpS_get->mV,mirror->nD,AllBare->pD,wpS->sU,listUpdate_at->s_,le_int->xV
open PySem.Value renaming none->bw,ref->bM,type->fK,int->g_,isInt->jR,bool->mE,str->rY
open Or renaming inr->bJ,inl->bL
open Int renaming toNat_natCast->bK,emod_lt_of_pos->eM,emod_nonneg->fG,toNat_of_nonneg->jz,le_refl->xb
open PySem.PassesOwn renaming never->bO
open PySem.Obj renaming mapSeq->bX,isFreed_of_dict->ke,data_mapDictKeys->nY,data_mapDict->se
open PySem.Str renaming ofString->cH
open PyProof.Rows.KeyOrd renaming kle_of_klt->cO,kle_trans->dg,kle_refl->eG,klt_of_klt_of_kle->fx
open Ne renaming symm->cR
open PySem.Builtin.List renaming listExtendWith->cU,listLengthHint->gK,listSameRef->iu,listItems->jd,listTooLong->lH,listUpdate->BY
open False renaming elim->dC
open Option renaming map_eq_some_iff->eu,bind_some->fq,isSome_iff_exists->kC,map_some->pN,map->Ak,getD_none->Fg
open PySem.Builtin.Tuple renaming tupleHashOf->eP,tupleCompareSizes->rq
open PySem.F renaming plainAttrs_list->eS,slot_dict_keyiterator_next->fw,plain_extend_loop->km,type_list_append->kA,slot_list_append->kB,slot_tuple_hash->lz,type_list_extend->rZ,slot_list_extend->r_,slot_dict_values->sd,args_dict_keyiterator_next_1->sj,slot_list_count->sO,plain_list_iadd->sP,plainAttrs_dict->sQ,entry_dict_keyiterator_next->sT,slot_dict_len->ur,type_dict_get->uT,slot_dict_get->uU
open PySem.Heap.SameBut renaming update->fC
open PySem.NameKind renaming free->fE
open ForInStep renaming yield->fH
open List.Sublist renaming refl->fM,append->jy
open List.cons renaming injEq->gi,inj->si
open List.Perm renaming append_left->gq,refl->ir,append_right->uq
open PySem.Paired renaming length->gF
open True renaming intro->jS
open PySem.Around renaming under_plainId->jW
open List.Pairwise renaming nil->kl
open PySem.SeqAt renaming eqAt_reads->lY
open PySem.Calls renaming callWith_builtin->mK,evalArgs_plain->og,Name_function_global->xc
open Sum renaming inr->nS,inl->nT
open PySem.SeqAt.ReadsAll renaming length->pB
open PySem.Builtin.Dict_items renaming ownsTuple->uu
open PySem.MeetsSeq3 renaming plain_eq_loop->xm
open PySem.AutoSeq1 renaming sub_tuple_tuple->Ap
open PySem.Builtin.Dict renaming showsAll->Gw
open Array.Perm renaming refl->Gx
def aB:=@if_pos
def aJ:=@if_neg
def aW:=@decide_eq_true
def bg:=@decide_eq_false
def bz:=@of_decide_eq_true
def dh:=@if_false
def dE:=@congrArg
def fS:=@beq_eq_false_iff_ne
def jJ:=@of_decide_eq_false
def nI:=@if_true
def oM:=@beq_self_eq_true
def BN:=@decide_eq_true_eq
def ZZ(h:True:=by first|exact .inl rfl|exact .inr rfl|assumption):True:=h
def ZY(h:True:=by first|exact bL rfl|exact bJ (bL rfl)|exact bJ (bJ rfl)):True:=h
def ZX(h:True:=by first|exact bL rfl|exact bJ rfl):True:=h
def ZW(h:True:=by first|exact .inl rfl|exact .inr rfl):True:=h
def ZV(h:True:=by decide):True:=h
namespace L2
open PySem PySem.Spec PyProof.Rows
abbrev Key:=Sum Int bE
def b7O:Key->ak->Bool
  |.inl k,v=>jR k v
  |.inr x,v=>ak.isStrOf x v
def c2z(w:bZ):Key->Int
  |.inl k=>hashInt k
  |.inr x=>hashStr w x
def u7:∀{k:Key} {v:ak},b7O k v=yn->(∃i t,k=nT i/\v=g_ i t)\/(∃x t,k=nS x/\v=rY x t)
  |.inl i,v,h=>by
    obtain⟨t,e⟩:=ak.isInt_shape (k:=i) (v:=v) h;exact .inl ⟨i,t,rfl,e⟩
  |.inr x,v,h=>by
    obtain⟨t,e⟩:=ak.isStrOf_shape (x:=x) (v:=v) h;exact .inr ⟨x,t,rfl,e⟩
def b8h(a b:Int):decide ((nT a:Key)=nT b)=(a==b):=by
  by_cases e:a=b
  · subst e;simp
  · have h:¬ (nT a:Key)=nT b:=λq=>e (nT.inj q)
    rw[bg h];exact (fS.mpr e).symm
def b8i(a b:bE):decide ((nS a:Key)=nS b)=decide (a=b):=by
  by_cases e:a=b
  · subst e;simp
  · have h:¬ (nS a:Key)=nS b:=λq=>e (nS.inj q)
    rw[bg h,bg e]
def b8j(a:Int)(b:bE):decide ((nT a:Key)=nS b)=yp:=bg (λq=>nomatch q)
def b8k(a:bE)(b:Int):decide ((nS a:Key)=nT b)=yp:=bg (λq=>nomatch q)
def a5n(prog:bB)(w:bZ):PySem.KeyKind prog w Key where
  is:=b7O
  hash:=c2z w
  inj:=λv a b ha hb=>by
    rcases u7 ha with⟨i,t,rfl,rfl⟩|⟨x,t,rfl,rfl⟩
    · rcases u7 hb with⟨j,u,rfl,e⟩|⟨y,u,rfl,e⟩
      · injection e with e1 _;rw[e1]
      · exact nomatch e
    · rcases u7 hb with⟨j,u,rfl,e⟩|⟨y,u,rfl,e⟩
      · exact nomatch e
      · injection e with e1 _;rw[e1]
  byValue:=λk v h=>by
    rcases u7 h with⟨i,t,rfl,rfl⟩|⟨x,t,rfl,rfl⟩<;>rfl
  pyHash:=λhv h=>by
    rcases u7 hv with⟨i,t,rfl,rfl⟩|⟨x,t,rfl,rfl⟩
    · exact wpAny_pyHash_int h
    · exact wpAny_pyHash_str h
  eqBool:=λhu hv h=>by
    rcases u7 hu with⟨i,t,rfl,rfl⟩|⟨x,t,rfl,rfl⟩
    · rcases u7 hv with⟨j,u,rfl,rfl⟩|⟨y,u,rfl,rfl⟩
      · rw[b8h]at h;exact lQ h
      · rw[b8j]at h;exact SeqAt.EqAt.int_str i t y u _ _ _ _ h
    · rcases u7 hv with⟨j,u,rfl,rfl⟩|⟨y,u,rfl,rfl⟩
      · rw[b8k]at h;exact SeqAt.EqAt.str_int x t j u _ _ _ _ h
      · rw[b8i]at h;exact wpAny_eqBool_str h
  «strs»:=λk x t v h=>by
    rcases u7 h with⟨i,u,rfl,e⟩|⟨y,u,rfl,e⟩
    · exact nomatch e
    · injection e with e1 _
      subst e1;cases v<;>rfl
inductive V where
  |non|bl (b:Bool)|int (i:Int)|str (x:bE)|byt (b:Array UInt8)|flt (b:UInt64)|ref (a:av)|ty (n:String)
  deriving DecidableEq
def RelV:V->ak->Prop
  |.non,u=>u=bw
  |.bl b,u=>u=mE b
  |.int i,u=>∃t,u=g_ i t
  |.str x,u=>∃t,u=rY x t
  |.byt b,u=>∃t,u=ak.bytes b t
  |.flt b,u=>∃t,u=ak.float b t
  |.ref a,u=>u=bM a
  |.ty n,u=>u=fK n
abbrev Vals:List V->List ak->Prop:=fR RelV
theorem Vals.length{xs:List V}{us:List ak}(r:Vals xs us):xs.length=us.length:=gF r
theorem Vals.get:∀{xs:List V} {us:List ak} {i:Nat} {x:V},Vals xs us->xs[i]?=cz x->∃u,us[i]?=cz u/\RelV x u
  |_,_,_,_,.nil,e=>by simp at e
  |_,_,0,_,.cons r _,e=>by simp at e;subst e;exact⟨_,rfl,r⟩
  |_,_,i+1,x,.cons _ t,e=>by
    obtain⟨u,h1,h2⟩:=Vals.get (i:=i) (x:=x) t (by simpa using e);exact⟨u,by simpa using h1,h2⟩
theorem Vals.set(r:RelV x u):∀{xs:List V} {us:List ak} (i:Nat),Vals xs us->Vals (xs.set i x) (us.set i u)
  |_,_,_,.nil=>.nil
  |_,_,0,.cons _ t=>.cons r t
  |_,_,i+1,.cons q t=>.cons q (Vals.set r i t)
theorem Vals.append:∀{xs ys:List V} {us ws:List ak},Vals xs us->Vals ys ws->Vals (xs++ys) (us++ws)
  |_,_,_,_,.nil,s=>s
  |_,_,_,_,.cons r t,s=>.cons r (Vals.append t s)
theorem Vals.take:∀{xs:List V} {us:List ak} (n:Nat),Vals xs us->Vals (xs.take n) (us.take n)
  |_,_,0,_=>.nil
  |_,_,_+1,.nil=>.nil
  |_,_,n+1,.cons r t=>.cons r (Vals.take n t)
theorem Vals.drop:∀{xs:List V} {us:List ak} (n:Nat),Vals xs us->Vals (xs.drop n) (us.drop n)
  |_,_,0,r=>r
  |_,_,_+1,.nil=>.nil
  |_,_,n+1,.cons _ t=>Vals.drop n t
def b8l:Option V->Option ak->Prop
  |some v,cz u=>RelV v u
  |none,xn=>True
  |_,_=>False
def KV{κ:Type}:List (κ×V)->List (κ×ak)->Prop:=fR λ(p:κ×V) (q:κ×ak)=>p.1=q.1/\RelV p.2 q.2
def kV:Key->V
  |.inl i=>.int i
  |.inr x=>.str x
inductive HO where
  |lst (xs:List V)
  |tup (xs:List V)
  |dK (kvs:List (Key×V))|dT (kvs:List (List Key×V))
  |set (S:Int->Bool) (n:Nat)
  |ins (C dx:av) (fs:List (bE×V))
  |own (x:av)
  |xd (fs:List (bE×V))
  |met (f x:av)
  |rng (lo hi:Int)
  |frz (o:fY) (u:HO)
  |tbl (ps:Array ak)
  |ext (φ:cS->Prop)
abbrev Hp:=av->Option HO
def upd(H:Hp)(a:av)(o:HO):Hp:=λb=>if b=a then cz o else H b
def f8{H:Hp}{a:av}{o:HO}:upd H a o a=cz o:=by unfold upd;rw[aB rfl]
def c7{H:Hp}{a b:av}{o:HO}(h:b≠a):upd H a o b=H b:=by unfold upd;rw[aJ h]
def b5A:upd (upd H a o) a u=upd H a u:=by
  funext b;unfold upd;split<;>rfl
def i6{H:Hp}{a b:av}{o:HO}(h:H a=cz o)(h':H b=xn):a≠b:=by
  intro e;subst e;rw[h]at h';cases h'
def Pin(a:av):HO->Prop
  |.tup _=>True
  |.frz _ (.own b)=>b=a
  |_=>False
abbrev c0H(a:av):={u:HO // Pin a u}
def a6o(H:Hp)(h:cS)(a:av)(qs:Array ak):Prop:=
  ∃ps:Array ak,h.get? a=cz {cls:=.none,data:=.fields ps}/\kH ps.toList/\∀(pos:fW) (cv:ak),lX pos ps.toList=cz cv->
    ∃c' oc vs q t t',cv=.ref c'/\H c'=cz (.frz oc (.own a))/\oc.data=.fields vs/\vs[1]?=cz (.str q t)/\qs[0]?=cz (.str q t')
section
variable (P:bB)(w:bZ)
def ObjOk(H:Hp)(h:cS)(a:av):HO->Prop
  |.lst xs=>xs.length<=aZ/\∃(its:List ak) (n:Nat),Vals xs its/\h.get? a=cz {cls:=.type "list",data:=.seq its.toArray n}
  |.tup xs=>xs.length<=aZ/\∃its:List ak,Vals xs its/\IsTup h a its.toArray
  |.dK kvs=>kvs.length<=aZ/\(a==dr)=yp/\∃vs,KV kvs vs/\h.DictOf (a5n P w) a vs
  |.dT kvs=>kvs.length<=aZ/\(a==dr)=yp/\∃xs:List (List Key×av×ak),
      fR (λ(p:List Key×V) (q:List Key×av×ak)=>p.1=q.1/\H q.2.1=cz (.tup (p.1.map kV))/\RelV p.2 q.2.2) kvs xs/\
      ∃o es ep,h.get? a=cz o/\o.ExactDict/\o.data=.dict es ep/\es.toList=xs.map (entryOfKey (tupleKind (a5n P w)))/\(xs.map (·.1)).Nodup
  |.set S n=>h.SetOf (gW P w) a S n
  |.ins C dx fs=>H dx=cz (.own a)/\fs.length<=1000/\dx≠a/\h.get? a=cz (pM C dx)/\
      ∃mA,h.Ns1 dx mA/\(∀f,b8l (fs.lookup f) (mA f))/\PySem.Within mA (fs.map (·.1))
  |.own _=>∃o,h.get? a=cz o
  |.xd fs=>∃mA,h.Ns1 a mA/\∀f,b8l (fs.lookup f) (mA f)
  |.rng lo hi=>∃t u v,h.get? a=cz {cls:=.type "range",data:=.fields #[.int lo t,.int hi u,.int 1 v]}
  |.frz o u=>h.get? a=cz o/\ObjOk H h a u
  |.tbl ps=>a6o H h a ps
  |.met f x=>h.get? a=cz (nU (.ref f) (.ref x))
  |.ext φ=>φ h/\(∃o,h.get? a=cz o)/\∀h1 h2:cS,φ h1->(∀o,h1.get? a=cz o->h2.get? a=cz o)->φ h2
def HOk(H:Hp)(h:cS):Prop:=∀a o,H a=cz o->ObjOk P w H h a o
end
section
variable {P:bB}{w:bZ}{H H':Hp}{h h':cS}{a:av}{o:HO}
theorem ObjOk.lt(x:ObjOk P w H h a o):a<h.objs.size:=by
  cases o with
  |lst xs=>obtain⟨_,_,_,_,e⟩:=x;exact aU e
  |tup xs=>obtain⟨_,_,_,p⟩:=x;exact p.lt
  |dK kvs=>obtain⟨_,_,_,_,o,_,_,e,_⟩:=x;exact aU e
  |dT kvs=>obtain⟨_,_,_,_,o,_,_,e,_⟩:=x;exact aU e
  |set S n=>obtain⟨o,_,_,_,e,_⟩:=x;exact aU e
  |ins C dx fs=>obtain⟨_,_,_,e,_⟩:=x;exact aU e
  |own y=>obtain⟨_,e⟩:=x;exact aU e
  |xd fs=>obtain⟨_,⟨_,_,_,e,_⟩,_⟩:=x;exact aU e
  |rng lo hi=>obtain⟨_,_,_,e⟩:=x;exact aU e
  |frz ob u=>obtain⟨e,_⟩:=x;exact aU e
  |tbl ps=>obtain⟨_,e,_⟩:=(show a6o H h a ps from x);exact aU e
  |met f y=>exact aU (show h.get? a=cz _ from x)
  |ext φ=>obtain⟨_,⟨_,e⟩,_⟩:=x;exact aU e
theorem Paired.mapP:∀{l₁:List α} {l₂:List β},fR F l₁ l₂->(∀a b,F a b->G a b)->fR G l₁ l₂
  |_,_,.nil,_=>.nil
  |_,_,.cons r t,f=>.cons (f _ _ r) (Paired.mapP t f)
def ObjOk.stay(x:ObjOk P w H h a o)(k:∀b u,(b=a\/H b=cz (.own a))->h.get? b=cz u->h'.get? b=cz u)
    (ho:∀b,H b=cz (.own a)->H' b=cz (.own a)) (ht:∀b (u:c0H a),H b=cz u.1->H' b=cz u.1):ObjOk P w H' h' a o:=by
  induction o with
  |lst xs=>obtain⟨z,its,n,r,e⟩:=x;exact⟨z,its,n,r,k _ _ (.inl rfl) e⟩
  |tup xs=>obtain⟨z,its,r,ob,e,c⟩:=x;exact⟨z,its,r,ob,k _ _ (.inl rfl) e,c⟩
  |dK kvs=>obtain⟨z,y,vs,r,ob,es,ep,e,c⟩:=x;exact⟨z,y,vs,r,ob,es,ep,k _ _ (.inl rfl) e,c⟩
  |dT kvs=>
    obtain⟨z,y,xs,r,ob,es,ep,e,c⟩:=x;exact⟨z,y,xs,Paired.mapP r λp q z=>⟨z.1,ht _ ⟨.tup _,trivial⟩ z.2.1,z.2.2⟩,ob,es,ep,k _ _ (.inl rfl) e,c⟩
  |set S n=>obtain⟨ob,es,ep,t,e,c⟩:=x;exact⟨ob,es,ep,t,k _ _ (.inl rfl) e,c⟩
  |ins C dx fs=>
    obtain⟨d,z,ne,e,mA,⟨od,es,ep,e2,c⟩,r⟩:=x;exact⟨ho _ d,z,ne,k _ _ (.inl rfl) e,mA,⟨od,es,ep,k _ _ (.inr d) e2,c⟩,r⟩
  |own y=>obtain⟨ob,e⟩:=x;exact⟨ob,k _ _ (.inl rfl) e⟩
  |xd fs=>obtain⟨mA,⟨od,es,ep,e,c⟩,r⟩:=x;exact⟨mA,⟨od,es,ep,k _ _ (.inl rfl) e,c⟩,r⟩
  |rng lo hi=>obtain⟨t,u,v,e⟩:=x;exact⟨t,u,v,k _ _ (.inl rfl) e⟩
  |frz ob u ih=>obtain⟨e,q⟩:=x;exact⟨k _ _ (.inl rfl) e,ih q⟩
  |tbl ps=>
    obtain⟨qs,e,t,f⟩:=(show a6o H h a ps from x);refine⟨qs,k a _ (.inl rfl) e,t,λpos cv z=>?_⟩;obtain⟨c,oc,vs,q,t1,t2,z1,z2,z3,z4,z5⟩:=f pos cv z;exact⟨c,oc,vs,q,t1,t2,z1,ht c ⟨.frz _ (.own a),rfl⟩ z2,z3,z4,z5⟩
  |met f y=>
    have e:h.get? a=cz (nU (.ref f) (.ref y)):=x;show h'.get? a=cz (nU (.ref f) (.ref y));exact k a _ (.inl rfl) e
  |ext φ=>obtain⟨p,⟨o,e⟩,st⟩:=x;exact⟨st _ _ p λo q=>k _ _ (.inl rfl) q,⟨o,k _ _ (.inl rfl) e⟩,st⟩
theorem HOk.lt(x:HOk P w H h)(e:H a=cz o):a<h.objs.size:=(x a o e).lt
def HOk.fresh(x:HOk P w H h)(e:h.objs.size<=a):H a=xn:=by
  cases q:H a with
  |none=>rfl
  |some u=>exact absurd (bo (x.lt q) e) (dR _)
def HOk.kept(x:HOk P w H h)(k:∀b u,h.get? b=cz u->h'.get? b=cz u):HOk P w H h':=λa o e=>
  (x a o e).stay (λb u _ q=>k b u q) (λ_ q=>q) λ_ _ q=>q
def HOk.laid(x:HOk P w H h)(k:∀b u,h.get? b=cz u->h'.get? b=cz u)(hp:h.objs.size<=a)(new:ObjOk P w (upd H a o) h' a o):HOk P w (upd H a o) h':=λb u e=>by
  have hn:=x.fresh hp;by_cases hb:b=a
  · subst hb;rw[f8]at e;cases e;exact new
  · rw[c7 hb]at e
    exact (x b u e).stay (λc v _ q=>k c v q) (λc q=>by rw[c7 (i6 q hn)];exact q) λc xs q=>by rw[c7 (i6 q hn)];exact q
end
def Rd(H:Hp)(a:av)(u:HO):Prop:=H a=cz u\/∃o,H a=cz (.frz o u)
def Rd.ok{P:bB}{w:bZ}{H:Hp}{h:cS}{a:av}{u:HO}(r:Rd H a u)(x:HOk P w H h):ObjOk P w H h a u:=by
  rcases r with r|⟨o,r⟩
  · exact x a u r
  · obtain⟨_,q⟩:=x a _ r
    exact q
def Mut:Option HO->Prop
  |some (.lst _)=>True
  |some (.dK _)=>True
  |some (.dT _)=>True
  |some (.set _ _)=>True
  |some (.ins _ _ _)=>True
  |some (.ext _)=>True
  |_=>False
section
variable {P:bB}{w:bZ}{H:Hp}{h h':cS}{x e:av}{o':HO}
def HOk.write(ok:HOk P w H h)(mu:Mut (H x))(he:e=x\/H e=cz (.own x))(k:∀b u,b≠e->h.get? b=cz u->h'.get? b=cz u)(uK:∃u,h'.get? e=cz u)
    (new:ObjOk P w (upd H x o') h' x o'):HOk P w (upd H x o') h':=λb u q=>by
  have vh:∀c y,H c=cz (.own y)->c≠x:=λc y r z=>by subst z;rw[r]at mu;exact mu
  have yo:∀{bq:av} c (u:c0H bq),H c=cz u.1->c≠x:=λ{bq} c u r z=>by subst z;rw[r]at mu;obtain⟨u,hu⟩:=u;cases u<;>first|exact hu|exact mu
  by_cases hb:b=x
  · subst hb;rw[f8]at q;cases q;exact new
  · rw[c7 hb]at q
    by_cases tY:b=e
    · have q':H b=cz (.own x):=by
        rcases he with z|z
        · exact absurd (tY.trans z) hb
        · rw[tY];exact z
      rw[q]at q';cases q';obtain⟨v,hv⟩:=uK;exact⟨v,by rw[tY];exact hv⟩
    · refine (ok b u q).stay (λc v hc r=>k c v ?_ r) (λc r=>by rw[c7 (vh c b r)];exact r) λc xs r=>by rw[c7 (yo c xs r)];exact r
      rcases hc with rfl|hc
      · exact tY
      · rintro rfl
        rcases he with z|z
        · exact vh c b hc z
        · rw[hc]at z;cases z;exact hb rfl
end
structure Un (fs ex:List av) (H H':Hp) (h h':cS):Prop where
  keep:∀b o,h.get? b=cz o->H b=xn->b∉fs->b∉ex->h'.get? b=cz o
  slot:∀b o,h.get? b=cz o->H b=xn->b∈fs->b∉ex->∃sl,h'.get? b=cz {o with slots:=sl}
  free:∀b o,h.get? b=cz o->H b=xn->b∉ex->H' b=xn
  there:∀b o,h.get? b=cz o->b∉ex->∃o',h'.get? b=cz o'
  tups:∀b xs,H b=cz (.tup xs)->H' b=cz (.tup xs)
  frzs:∀b o u,H b=cz (.frz o u)->H' b=cz (.frz o u)
  tbls:∀b ps,H b=cz (.tbl ps)->∃more,H' b=cz (.tbl (ps++more))
section
variable {fs jM ex Gf:List av}{H H1 H2:Hp}{h h1 h2 h':cS}{a x e:av}{o:HO}
def Un.any(u:Un fs ex H H1 h h1)(q:h.get? b=cz ob)(n:H b=xn)(hx:b∉ex):∃sl,h1.get? b=cz {ob with slots:=sl}:=by
  by_cases hb:b∈fs
  · exact u.slot b ob q n hb hx
  · exact⟨ob.slots,u.keep b ob q n hb hx⟩
def Un.kept(k:∀b u,h.get? b=cz u->h'.get? b=cz u):Un fs ex H H h h':=
  ⟨λb ob q _ _ _=>k b ob q,λb ob q _ _ _=>⟨ob.slots,k b ob q⟩,λ_ _ _ n _=>n,λb ob q _=>⟨ob,k b ob q⟩,λ_ _ q=>q,λ_ _ _ q=>q,λ_ ps q=>⟨#[],by rw[q];simp⟩⟩
def Un.refl:Un fs ex H H h h:=Un.kept λ_ _ q=>q
def Un.laid(k:∀b u,h.get? b=cz u->h'.get? b=cz u)(hp:h.objs.size<=a)(hn:H a=xn):Un fs ex H (upd H a o) h h' where
  keep:=λb u q _ _ _=>k b u q
  slot:=λb u q _ _ _=>⟨u.slots,k b u q⟩
  free:=λb u q n _=>by rw[c7 (bP (bo (aU q) hp))];exact n
  there:=λb u q _=>⟨u,k b u q⟩
  tups:=λb xs q=>by rw[c7 (i6 q hn)];exact q
  frzs:=λb u xs q=>by rw[c7 (i6 q hn)];exact q
  tbls:=λb ps q=>⟨#[],by rw[c7 (i6 q hn),q];simp⟩
def Un.write(mu:Mut (H x))(he:e=x\/H e=cz (.own x))(k:∀b u,b≠e->h.get? b=cz u->h'.get? b=cz u)(uK:∃u,h'.get? e=cz u):Un fs ex H (upd H x o) h h':=by
  have hx:∀b,H b=xn->b≠x:=λb n z=>by subst z;rw[n]at mu;exact mu
  have hb:∀b,H b=xn->b≠e:=λb n z=>by
    subst z;rcases he with r|r
    · exact hx b n r
    · rw[n]at r;cases r
  have hm:∀b u,H b=cz u->¬ Mut (cz u)->b≠x:=λb u q nm z=>by subst z;rw[q]at mu;exact nm mu
  refine⟨λb u q n _ _=>k b u (hb b n) q,λb u q n _ _=>⟨u.slots,k b u (hb b n) q⟩,λb u q n _=>by rw[c7 (hx b n)];exact n,λb u q _=>?_,
    λb xs q=>by rw[c7 (hm b _ q λz=>z)];exact q,λb u xs q=>by rw[c7 (hm b _ q λz=>z)];exact q,λb ps q=>⟨#[],by rw[c7 (hm b _ q λz=>z),q];simp⟩⟩
  by_cases tY:b=e
  · subst tY;exact uK
  · exact⟨u,k b u tY q⟩
end
def trk(h:cS)(H:Hp):List av:=(az h.objs.size).filter λa=>(H a).isSome
def a5o(h:cS)(H:Hp):cS:=PySem.W.hideAll h (trk h H)
def b0K(h:cS)(H:Hp):(a5o h H).objs.size=h.objs.size:=PySem.W.hideAll_size _ _
def b2C{h:cS}(e:h.get? b=cz o)(n:H b=xn):(a5o h H).get? b=cz o:=
  PySem.W.hideAll_get _ e λhm=>by
    have q:(H b).isSome=yn:=(fF.mp hm).2;rw[n]at q;simp at q
def b5B(e:(a5o h H).get? b=cz o):h.get? b=cz o/\H b=xn:=by
  have e':h.get? b=cz o:=PySem.W.of_hideAll (trk h H) e;refine⟨e',?_⟩;cases q:H b with
  |none=>rfl
  |some x=>
    have hm:b∈trk h H:=fF.mpr ⟨bT.mpr (aU e'),by simp[q]⟩;have z:(a5o h H).get? b=xn:=PySem.W.hideAll_none (trk h H) hm;rw[z]at e;cases e
def b5C(g h:cS)(L:av):List (av×fY):=(az h.objs.size).filterMap λa=>if a=L\/(g.get? a).isSome=yn then xn else (h.get? a).map λo=>(a,o)
def rest(g h:cS)(L d:av):List (av×fY):=(b5C g h L).filter λp=>decide (p.1≠d)
def L9:List bE:=["ways_by_state","joins_by_pair","compare","first_gathering","least_asks"]
def V9(x:bE):bE:=x++".<locals>." ++ "<lambda>"
def a5p(K:ag)(cd:ak):Option av:=match cd with
  |.ref c=>(match K.lookup c with
    |some ⟨.type n,_,.fields vs,_⟩=>if n=="code" then
        (match (vs[11]?:Option ak),(vs[18]?:Option ak),(vs[7]?:Option ak),(vs[9]?:Option ak),(vs[10]?:Option ak) with
        |some (.ref P),cz (.str _ _),cz (.int _ _),cz (.bool _),cz (.int _ _)=>if c !=P then cz P else xn
        |_,_,_,_,_=>xn) else xn
    |_=>xn)
  |_=>xn
def B0(K:ag)(x:bE):Option av:=match gG K bV x with
  |some (cz (.ref f))=>(match K.lookup f with
    |some ⟨_,_,.func fd,_⟩=>a5p K fd.code
    |_=>xn)
  |_=>xn
def TabsIn(K:ag)(H:Hp):Prop:=∀x∈L9,∀p,B0 K x=cz p->∃qs t,H p=cz (.tbl qs)/\qs[0]?=cz (.str (V9 x) t)
def TabsIn.un{K:ag}{fs ex:List av}{H H':Hp}{h h':cS}(a:TabsIn K H)(u:Un fs ex H H' h h'):TabsIn K H':=λx hx p e=>by
  obtain⟨qs,t,e1,e2⟩:=a x hx p e;obtain⟨more,e3⟩:=u.tbls p qs e1;refine⟨_,t,e3,?_⟩;have hz:0<qs.size:=by
    rcases dH 0 qs.size with z|z
    · exact z
    · rw[gd (by omega)]at e2;cases e2
  rw[Array.getElem?_append_left hz];exact e2
structure Mod (K:ag) (mg:bE->Option ak) (base:cS):Prop where
  kin:K.In base
  glob:base.Ns bV mg
  blt:∃mb,base.Ns kL mb/\∀x:bE,x≠"__name__"->mb x=gY x
  nolimit:base.NoLimit
  bmain:∃bm ob,mg "__builtins__"=cz (.ref bm)/\bm≠kL/\base.get? bm=cz ob/\ob.cls=.type "module"/\ob.dict=cz kL/\ob.data=.plain
structure Cx where
  prog:bB
  w:bZ
  K:ag
  mg:bE->Option ak
  base:cS
  A:bS
  N:List bE
  s₀:ar
  H₀:Hp
  env:oQ
  outer:List oQ
  stack:List oQ
  ex:List av
  fn:bE->Bool
  calm:Bool
  pn:List (av×fY)
  xe:ak->ar->Prop
def frs(l:List oQ):List av:=l.filterMap (·.frame)
abbrev Cx.fs(X:Cx):List av:=frs X.outer
def Vis(sc:gC)(x:bE):Prop:=sc.names.lookup x=cz .local\/sc.names.lookup x=cz .cell\/sc.names.lookup x=cz .free
def Loc(sc:gC)(x:bE):Prop:=sc.names.lookup x=cz .local\/sc.names.lookup x=cz .cell
def Look(env:oQ)(h:cS)(m:bE->Option ak)(x:bE)(u:ak):Prop:=
  (env.kindOf x=cz .local/\m x=cz u)\/((env.kindOf x=cz .cell\/env.kindOf x=cz .free)/\∃c,env.cells.lookup x=cz c/\h.IsCell c (cz u))
structure Cx.Ok (X:Cx):Prop where
  mod:Mod X.K X.mg X.base
  kind:X.env.scope.kind=.function
  glob:X.env.globals=bV
  blt:X.env.builtins=kL
  above:X.s₀.heap.objs.size<=X.env.locals
  inj:∀x y c,X.env.cells.lookup x=cz c->X.env.cells.lookup y=cz c->x=y
  has:∀x,(X.env.kindOf x=cz .cell\/X.env.kindOf x=cz .free)->∃c,X.env.cells.lookup x=cz c
  cab:∀x c,X.fn x=yn->X.env.cells.lookup x=cz c->X.s₀.heap.objs.size<=c
  hd:X.calm=yn->X.A.handled=xn
  frames:X.A.frames=cz X.stack
  stk:X.stack=X.outer\/(X.stack=X.env::X.outer/\X.env.frame=cz X.env.locals)
  exf:∀b∈X.ex,b≠X.env.locals/\∀x c,X.env.cells.lookup x=cz c->c≠b
  bs:∀b o,X.base.get? b=cz o->X.s₀.heap.get? b=cz o/\X.H₀ b=xn
  bsz:X.base.objs.size<=X.s₀.heap.objs.size
  noex:∀b o,X.base.get? b=cz o->b∉X.ex
  exfs:∀b∈X.ex,b∉X.fs
  funs:X.s₀.heap.FunFrames X.base X.outer
  frf:∀b∈X.fs,X.H₀ b=xn
  tabs:TabsIn X.K X.H₀
structure Inv (X:Cx) (pins:List (av×fY)) (U:List (Option V)) (H:Hp) (s:ar):Prop where
  ok:X.Ok
  os:s.os=X.s₀.os
  bare:pD s.gens
  base:Un X.fs X.ex X.H₀ H X.s₀.heap s.heap
  loc:∃m,s.heap.Ns X.env.locals m/\∀(i:Nat) (x:bE) (v:V),X.N[i]?=cz x->U[i]?=cz (cz v)->Vis X.env.scope x->∃u,RelV v u/\Look X.env s.heap m x u
  cell:∀x c,X.env.cells.lookup x=cz c->∃v,s.heap.IsCell c v
  free:H X.env.locals=xn
  freeC:∀x c,X.env.cells.lookup x=cz c->H c=xn
  pin:∀p∈X.pn++pins,s.heap.get? p.1=cz p.2/\H p.1=xn/\p.1≠X.env.locals/\p.1∉X.fs/\∀v,p.2.data≠.cell v
  hok:HOk X.prog X.w H s.heap
  len:U.length=X.N.length
section
variable {X:Cx}{pins:List (av×fY)}{U:List (Option V)}{H H':Hp}{s:ar}{h':cS}
def Cx.Ok.nofr(ok:X.Ok)(e:X.base.get? b=cz o):b∉X.fs:=λhb=>by
  have:=(ok.funs.mem hb).1;rw[e]at this;cases this
theorem Inv.bs(I:Inv X pins U H s):∀b o,X.base.get? b=cz o->s.heap.get? b=cz o/\H b=xn:=λb o e=>
  ⟨I.base.keep b o (I.ok.bs b o e).1 (I.ok.bs b o e).2 (I.ok.nofr e) (I.ok.noex b o e),I.base.free b o (I.ok.bs b o e).1 (I.ok.bs b o e).2 (I.ok.noex b o e)⟩
theorem Inv.tabs(I:Inv X pins U H s):TabsIn X.K H:=I.ok.tabs.un I.base
def Inv.bk(I:Inv X pins U H s):∀b o,X.base.get? b=cz o->s.heap.get? b=cz o:=λb o e=>(I.bs b o e).1
theorem Inv.mod(I:Inv X pins U H s):Mod X.K X.mg X.base:=I.ok.mod
def Inv.kIn(I:Inv X pins U H s):X.K.In s.heap:=I.ok.mod.kin.keeps I.bk
theorem Inv.lt(I:Inv X pins U H s):X.env.locals<s.heap.objs.size:=let⟨_,hn,_⟩:=I.loc;hn.lt
def Inv.sz(I:Inv X pins U H s):X.s₀.heap.objs.size<=s.heap.objs.size:=cF I.ok.above (eN I.lt)
def Inv.nofs(I:Inv X pins U H s)(h:s.heap.objs.size<=a):a∉X.fs:=λhb=>by
  obtain⟨_,o,ho,_⟩:=I.ok.funs.mem hb;exact absurd (bo (aU ho) (cF I.sz h)) (dR _)
def Inv.cne(I:Inv X pins U H s):∀x c,X.env.cells.lookup x=cz c->c≠X.env.locals:=λx c e z=>by
  obtain⟨v,o,ho,hd⟩:=I.cell x c e;obtain⟨m,⟨o',es,ep,pH,jX,_⟩,_⟩:=I.loc;rw[z,pH]at ho;cases ho;rw[jX]at hd;cases hd
theorem Inv.funs(I:Inv X pins U H s):s.heap.FunFrames X.base X.outer:=by
  have all:∀(l:List oQ),(∀b∈frs l,b∈X.fs)->X.s₀.heap.FunFrames X.base l->s.heap.FunFrames X.base l:=by
    intro l
    induction l with
    |nil=>intro _ _;trivial
    |cons env r ih=>
      intro hs hl;obtain⟨hk,⟨L,o,hf,hn,ho,hd⟩,hr⟩:=hl;have hL:L∈X.fs:=hs L (by unfold frs;rw[mH,hf];exact aL);obtain⟨sl,e⟩:=I.base.slot L o ho (I.ok.frf L hL) hL λz=>I.ok.exfs L z hL
      exact⟨hk,⟨L,_,hf,hn,e,hd⟩,ih (λb hb=>hs b (by unfold frs;rw[mH,hf];exact aw _ hb)) hr⟩
  exact all X.outer (λ_ hb=>hb) I.ok.funs
theorem Inv.stack(I:Inv X pins U H s):s.heap.FunFrames X.base X.stack:=by
  rcases I.ok.stk with e|⟨e,hf⟩
  · rw[e];exact I.funs
  · rw[e]
    obtain⟨m,hn,_⟩:=I.loc;refine .cons (by rw[I.ok.kind];decide) hf hn ?_ I.funs;exact cS.get?_none_of_le (cF I.ok.bsz I.ok.above)
def Inv.stkSub(I:Inv X pins U H s):∀b∈frs X.stack,b∈X.env.locals::X.fs:=λb hb=>by
  rcases I.ok.stk with e|⟨e,hf⟩
  · rw[e]at hb;exact aw _ hb
  · rw[e]at hb
    unfold frs at hb;rw[mH,hf]at hb;exact hb
def Inv.stkFree(I:Inv X pins U H s):∀b∈frs X.stack,H b=xn:=λb hb=>by
  rcases aD.mp (I.stkSub b hb) with e|hb
  · rw[e];exact I.free
  · obtain⟨_,o,ho,_⟩:=I.ok.funs.mem hb
    exact I.base.free b o ho (I.ok.frf b hb) λz=>I.ok.exfs b z hb
def Inv.step{g':Array GenState}{t':Nat}{d':Drawn}{ch:List av}(I:Inv X pins U H s)
    (qZ:∀b∈ch,(b∈X.ex\/X.s₀.heap.objs.size<=b)/\b≠X.env.locals/\(∀x c,X.env.cells.lookup x=cz c->c≠b)/\∀p∈X.pn++pins,p.1≠b)
    (keep:∀b o,b≠X.env.locals->b∉X.fs->b∉ch->s.heap.get? b=cz o->H b=xn->h'.get? b=cz o)
    (slot:∀b o,b≠X.env.locals->b∈X.fs->b∉ch->s.heap.get? b=cz o->H b=xn->∃sl,h'.get? b=cz {o with slots:=sl}) (free:∀b o,b∉ch->s.heap.get? b=cz o->H b=xn->H' b=xn)
    (there:∀b o,b∉ch->s.heap.get? b=cz o->∃o',h'.get? b=cz o')
    (tups:∀b xs,H b=cz (.tup xs)->H' b=cz (.tup xs)) (frzs:∀b o u,H b=cz (.frz o u)->H' b=cz (.frz o u)) (tbls:∀b ps,H b=cz (.tbl ps)->∃more,H' b=cz (.tbl (ps++more)))
    (ns:∀m,s.heap.Ns X.env.locals m->h'.Ns X.env.locals m) (hok:HOk X.prog X.w H' h') (hg:pD g') :
    Inv X pins U H' {s with heap:=h',gens:=g',drawn:=d',toks:=t'}:=by
  have AE:∀b o,X.s₀.heap.get? b=cz o->b≠X.env.locals:=λb o e=>bP (bo (aU e) I.ok.above)
  have xp:∀b o,X.s₀.heap.get? b=cz o->b∉X.ex->b∉ch:=λb o e hx hb=>by
    rcases (qZ b hb).1 with z|z
    · exact hx z
    · exact absurd (bo (aU e) z) (dR _)
  have cellK:∀x c,X.env.cells.lookup x=cz c->∀v,s.heap.IsCell c v->h'.IsCell c v:=λx c e v ⟨o,ho,hd⟩=>by
    have qd:c∉ch:=λz=>(qZ c z).2.2.1 x c e rfl
    by_cases hc:c∈X.fs
    · obtain⟨sl,q⟩:=slot c o (I.cne x c e) hc qd ho (I.freeC x c e)
      exact⟨_,q,hd⟩
    · exact⟨o,keep c o (I.cne x c e) hc qd ho (I.freeC x c e),hd⟩
  refine⟨I.ok,I.os,hg,⟨λb o e n hb hx=>?_,λb o e n hb hx=>?_,λb o e n hx=>?_,λb o e hx=>?_,λb xs e=>tups b xs (I.base.tups b xs e),λb o xs e=>frzs b o xs (I.base.frzs b o xs e),λb ps e=>?_⟩,?_,λx c e=>?_,?_,λx c e=>?_,λp hp=>?_,hok,I.len⟩
  · exact keep b o (AE b o e) hb (xp b o e hx) (I.base.keep b o e n hb hx) (I.base.free b o e n hx)
  · obtain⟨sl,e1⟩:=I.base.slot b o e n hb hx
    obtain⟨Aw,e2⟩:=slot b _ (AE b o e) hb (xp b o e hx) e1 (I.base.free b o e n hx);exact⟨Aw,e2⟩
  · obtain⟨o',e1⟩:=I.base.there b o e hx
    exact free b o' (xp b o e hx) e1 (I.base.free b o e n hx)
  · obtain⟨o',e1⟩:=I.base.there b o e hx
    exact there b o' (xp b o e hx) e1
  · obtain⟨m1,e1⟩:=I.base.tbls b ps e
    obtain⟨m2,e2⟩:=tbls b _ e1;exact⟨m1++m2,by rw[e2,jV]⟩
  · obtain⟨m,hn,hl⟩:=I.loc
    refine⟨m,ns m hn,λi x v e1 e2 e3=>?_⟩;obtain⟨u,r,l⟩:=hl i x v e1 e2 e3;refine⟨u,r,?_⟩;rcases l with l|⟨k,c,e,z⟩
    · exact .inl l
    · exact .inr ⟨k,c,e,cellK x c e _ z⟩
  · obtain⟨v,z⟩:=I.cell x c e
    exact⟨v,cellK x c e v z⟩
  · obtain⟨m,⟨o,_,_,ho,_⟩,_⟩:=I.loc
    exact free _ o (λz=>(qZ _ z).2.1 rfl) ho I.free
  · obtain⟨v,o,ho,hd⟩:=I.cell x c e
    exact free c o (λz=>(qZ c z).2.2.1 x c e rfl) ho (I.freeC x c e)
  · obtain⟨e,n,ne,nf,d⟩:=I.pin p hp
    have qd:p.1∉ch:=λz=>(qZ p.1 z).2.2.2 p hp rfl
    exact⟨keep p.1 p.2 ne nf qd e n,free p.1 p.2 qd e n,ne,nf,d⟩
def Inv.un(I:Inv X pins U H s)(u:Un X.fs [] H H' s.heap h')(hok:HOk X.prog X.w H' h'):Inv X pins U H' {s with heap:=h',toks:=t'}:=by
  obtain⟨m,⟨o,es,ep,ho,r⟩,_⟩:=id I.loc;obtain⟨sl,hL⟩:=u.any ho I.free (by simp);exact I.step (g':=s.gens) (d':=s.drawn) (ch:=[]) (λ_ z=>nomatch z) (λb o _ hb _ e n=>u.keep b o e n hb (by simp)) (λb o _ hb _ e n=>u.slot b o e n hb (by simp)) (λb o _ e n=>u.free b o e n (by simp)) (λb o _ e=>u.there b o e (by simp)) u.tups u.frzs u.tbls (λm' hm=>by
    obtain⟨o',jn,rW,pH,r'⟩:=hm;rw[ho]at pH;cases pH;exact⟨_,jn,rW,hL,r'⟩) hok I.bare
def Inv.call(I:Inv X pins U H s)(u:Un (frs X.stack) ch H H' s.heap h')(hok:HOk X.prog X.w H' h')(hg:pD g')
    (qZ:∀b∈ch,(b∈X.ex\/X.s₀.heap.objs.size<=b)/\b≠X.env.locals/\(∀x c,X.env.cells.lookup x=cz c->c≠b)/\∀p∈X.pn++pins,p.1≠b) :
    Inv X pins U H' {s with heap:=h',gens:=g',drawn:=d',toks:=t'}:=by
  obtain⟨m,⟨o,es,ep,ho,r⟩,_⟩:=id I.loc;obtain⟨sl,hL⟩:=u.any ho I.free λz=>(qZ _ z).2.1 rfl
  exact I.step (ch:=ch) qZ (λb o hL hb hc e n=>u.keep b o e n (λz=>(aD.mp (I.stkSub b z)).elim hL hb) hc) (λb o _ _ hc e n=>u.any e n hc) (λb o hc e n=>u.free b o e n hc) (λb o hc e=>u.there b o e hc) u.tups u.frzs u.tbls (λm' hm=>by
    obtain⟨o',jn,rW,pH,r'⟩:=hm;rw[ho]at pH;cases pH;exact⟨_,jn,rW,hL,r'⟩) hok hg
def Inv.turned(I:Inv X pins U H s)(k:∀b o,b≠it->s.heap.get? b=cz o->h'.get? b=cz o)(hn:H it=xn)(hL:it≠X.env.locals)
    (h1:it∈X.ex\/X.s₀.heap.objs.size<=it) (h2:∀x c,X.env.cells.lookup x=cz c->c≠it) (h3:∀p∈X.pn++pins,p.1≠it):Inv X pins U H {s with heap:=h',toks:=t'}:=by
  have AB:∀b u,H b=cz u->b≠it:=λb u e z=>by rw[z,hn]at e;cases e
  refine I.step (g':=s.gens) (d':=s.drawn) (ch:=[it]) (λb hb=>?_) (λb o _ _ hc e _=>k b o (λz=>hc (by simp[z])) e) (λb o _ _ hc e _=>⟨o.slots,k b o (λz=>hc (by simp[z])) e⟩) (λ_ _ _ _ n=>n)
    (λb o hc e=>⟨o,k b o (λz=>hc (by simp[z])) e⟩) (λ_ _ e=>e) (λ_ _ _ e=>e) (λb ps e=>⟨#[],by rw[e];simp⟩) (λm hm=>?_) (λb u e=>?_) I.bare
  · have e:b=it:=by simpa using hb
    subst e;exact⟨h1,hL,h2,h3⟩
  · obtain⟨o,es,ep,ho,r⟩:=hm
    exact⟨o,es,ep,k _ o (cR hL) ho,r⟩
  · refine (I.hok b u e).stay (λc v hc q=>k c v ?_ q) (λ_ q=>q) λ_ _ q=>q
    rcases hc with z|z
    · rw[z];exact AB b u e
    · exact AB c _ z
def Inv.tok(I:Inv X pins U H s)(t:Nat):Inv X pins U H {s with toks:=t}:=I.un (h':=s.heap) (t':=t) Un.refl I.hok
theorem Inv.kept(I:Inv X pins U H s)(k:∀b u,s.heap.get? b=cz u->h'.get? b=cz u):Inv X pins U H {s with heap:=h',toks:=t'}:=I.un (Un.kept k) (I.hok.kept k)
theorem Inv.laid{a:av}{o:HO}{t':Nat}(I:Inv X pins U H s)(k:∀b u,s.heap.get? b=cz u->h'.get? b=cz u)(hp:s.heap.objs.size<=a)(new:ObjOk X.prog X.w (upd H a o) h' a o) :
    Inv X pins U (upd H a o) {s with heap:=h',toks:=t'}:=I.un (Un.laid k hp (I.hok.fresh hp)) (I.hok.laid k hp new)
theorem Inv.write(I:Inv X pins U H s)(mu:Mut (H x))(he:e=x\/H e=cz (.own x))(k:∀b u,b≠e->s.heap.get? b=cz u->h'.get? b=cz u)(uK:∃u,h'.get? e=cz u)
    (new:ObjOk X.prog X.w (upd H x o) h' x o):Inv X pins U (upd H x o) {s with heap:=h',toks:=t'}:=I.un (Un.write mu he k uK) (I.hok.write mu he k uK new)
def Inv.pins_of(I:Inv X pins U H s)(h:∀p∈lg,s.heap.get? p.1=cz p.2/\H p.1=xn/\p.1≠X.env.locals/\p.1∉X.fs/\∀v,p.2.data≠.cell v):Inv X lg U H s:=
  ⟨I.ok,I.os,I.bare,I.base,I.loc,I.cell,I.free,I.freeC,λp hp=>(ao.mp hp).elim (λz=>I.pin p (aj _ z)) (h p),I.hok,I.len⟩
def a6p{N:List bE}(hN:N.Nodup){i j:Nat}{x:bE}(a:N[i]?=cz x)(b:N[j]?=cz x):i=j:=by
  obtain⟨h1,e1⟩:=aM.mp a;obtain⟨h2,e2⟩:=aM.mp b;exact (List.getElem_inj hN).mp (e1.trans e2.symm)
def b0L{M:Model}{A:bS}{E:ak->ar->Prop}{i:Nat}{x:bE}{v:V}{u:ak}{Q:Unit->ar->Prop}(I:Inv X pins U H s)(hN:X.N.Nodup)(hi:X.N[i]?=cz x)(hx:Loc X.env.scope x)(r:RelV v u)
    (h:∀s',Inv X pins (U.set i (cz v)) H s'->(∃a,mJ a s.heap s'.heap/\(a=X.env.locals\/X.env.cells.lookup x=cz a))->Q () s') (hf:autoParam (X.fn x=yn\/X.env.scope.names.lookup x=cz .local) ZZ._auto_1):aX M A (storeName X.env x u) Q E s:=by
  obtain⟨m,hn,hl⟩:=id I.loc;have zD:(X.env.scope.kind==.class||(X.env.scope.kind==.module&&X.env.locals !=X.env.globals))=yp:=by rw[I.ok.kind];rfl
  have vX:i<U.length:=by rw[I.len];exact (aM.mp hi).1
  have cne:=I.cne;have tracked:∀{a:av} {h':cS},(∃o,s.heap.get? a=cz o/\H a=xn)->mJ a s.heap h'->HOk X.prog X.w H h':=λ{a h'} ha hs b ob e=>by
    obtain⟨_,_,nN⟩:=ha;refine (I.hok b ob e).stay (λc w' hc q=>(hs.2 c ?_).trans q) (λ_ q=>q) λ_ _ q=>q
    rintro rfl;rcases hc with rfl|hc
    · rw[nN]at e;cases e
    · rw[nN]at hc;cases hc
  rcases hx with hk|hk
  · refine wpAny_storeName_local hk hn (λh' vM hs=>?_) zD
    obtain⟨oL,_,_,Dm,_⟩:=id hn;refine h _ ⟨I.ok,I.os,I.bare,⟨λb o e n hb hx=>?_,λb o e n hb hx=>?_,I.base.free,λb o e hx=>?_,I.base.tups,I.base.frzs,I.base.tbls⟩,⟨_,vM,λj y v' e1 e2 e3=>?_⟩,λy c e=>?_,I.free,I.freeC,λp hp=>?_,tracked ⟨oL,Dm,I.free⟩ hs,by simpa using I.len⟩ ⟨_,hs,.inl rfl⟩
    · exact (hs.2 b (bP (bo (aU e) I.ok.above))).trans (I.base.keep b o e n hb hx)
    · obtain⟨sl,e1⟩:=I.base.slot b o e n hb hx
      exact⟨sl,(hs.2 b (bP (bo (aU e) I.ok.above))).trans e1⟩
    · obtain⟨o',e1⟩:=I.base.there b o e hx
      exact⟨o',(hs.2 b (bP (bo (aU e) I.ok.above))).trans e1⟩
    · by_cases hj:j=i
      · subst hj
        rw[hi]at e1;cases e1;rw[dO vX]at e2;cases e2
        exact⟨u,r,.inl ⟨hk,by simp⟩⟩
      · rw[bI (cR hj)]at e2
        obtain⟨u',r',q⟩:=hl j y v' e1 e2 e3;refine⟨u',r',?_⟩;rcases q with⟨k,e⟩|⟨k,c,e,z⟩
        · refine .inl ⟨k,?_⟩
          have:y≠x:=λe=>hj (a6p hN e1 (e▸hi))
          simp[this,e]
        · exact .inr ⟨k,c,e,z.sameBut hs (cne y c e)⟩
    · obtain⟨w',z⟩:=I.cell y c e
      exact⟨w',z.sameBut hs (cne y c e)⟩
    · obtain⟨e,n,ne,nf,d⟩:=I.pin p hp
      exact⟨(hs.2 p.1 ne).trans e,n,ne,nf,d⟩
  · have mP:X.fn x=yn:=by
      rcases hf with z|z
      · exact z
      · rw[z]at hk;cases hk
    obtain⟨c,hc⟩:=I.ok.has x (.inl hk);obtain⟨w',z⟩:=I.cell x c hc;refine wpAny_storeName_cell I.ok.kind hk hc z (λh' uM hs=>?_);obtain⟨oc,vI,y_⟩:=id z;refine h {s with heap:=h'} ⟨I.ok,I.os,I.bare,⟨λb o e n hb hx=>?_,λb o e n hb hx=>?_,I.base.free,λb o e hx=>?_,I.base.tups,I.base.frzs,I.base.tbls⟩,⟨m,hn.sameBut hs (cR (cne x c hc)),λj y v' e1 e2 e3=>?_⟩,λy c' e=>?_,I.free,I.freeC,λp hp=>?_,tracked ⟨oc,vI,I.freeC x c hc⟩ hs,by simpa using I.len⟩ ⟨c,hs,.inr hc⟩
    · exact (hs.2 b (bP (bo (aU e) (I.ok.cab x c mP hc)))).trans (I.base.keep b o e n hb hx)
    · obtain⟨sl,e1⟩:=I.base.slot b o e n hb hx
      exact⟨sl,(hs.2 b (bP (bo (aU e) (I.ok.cab x c mP hc)))).trans e1⟩
    · obtain⟨o',e1⟩:=I.base.there b o e hx
      exact⟨o',(hs.2 b (bP (bo (aU e) (I.ok.cab x c mP hc)))).trans e1⟩
    · by_cases hj:j=i
      · subst hj
        rw[hi]at e1;cases e1;rw[dO vX]at e2;cases e2
        exact⟨u,r,.inr ⟨.inl hk,c,hc,uM⟩⟩
      · rw[bI (cR hj)]at e2
        obtain⟨u',r',q⟩:=hl j y v' e1 e2 e3;refine⟨u',r',?_⟩;rcases q with q|⟨k,c',e,z'⟩
        · exact .inl q
        · refine .inr ⟨k,c',e,z'.sameBut hs ?_⟩
          rintro rfl;exact hj (a6p hN e1 (I.ok.inj _ _ _ e hc▸hi))
    · by_cases xG:c'=c
      · subst xG;exact⟨_,uM⟩
      · obtain⟨w2,z2⟩:=I.cell y c' e
        exact⟨w2,z2.sameBut hs xG⟩
    · obtain⟨e,n,ne,nf,d⟩:=I.pin p hp
      refine⟨(hs.2 p.1 ?_).trans e,n,ne,nf,d⟩;intro q;rw[q,vI]at e;have q':oc=p.2:=aH e;exact d w' (by rw[<-q'];exact y_)
def a0K(I:Inv X pins U H s)(hN:X.N.Nodup)(hi:X.N[i]?=cz x)(hx:Loc X.env.scope x)(r:RelV v u)
    (h:∀s',Inv X pins (U.set i (cz v)) H s'->Q () s') (hf:autoParam (X.fn x=yn\/X.env.scope.names.lookup x=cz .local) ZZ._auto_1):aX M A (storeName X.env x u) Q E s:=
  b0L I hN hi hx r (λs' I' _=>h s' I') hf
def Inv.call'{s':ar}(I:Inv X pins U H s)(ho:s'.os=s.os)(u:Un (frs X.stack) ch H H' s.heap s'.heap)(hok:HOk X.prog X.w H' s'.heap)(hg:pD s'.gens)
    (qZ:∀b∈ch,(b∈X.ex\/X.s₀.heap.objs.size<=b)/\b≠X.env.locals/\(∀x c,X.env.cells.lookup x=cz c->c≠b)/\∀p∈X.pn++pins,p.1≠b):Inv X pins U H' s':=by
  obtain⟨h',g',d',t',o'⟩:=s';have e:o'=s.os:=ho;subst e;exact I.call (g':=g') (t':=t') (d':=d') u hok hg qZ
end
abbrev XK:=ak->Option av->Hp->Prop
abbrev St:=List (Option V)
abbrev VK:=V->Hp->Prop
abbrev TE:=St->Hp->VK->Prop
abbrev TT:=St->Hp->(Bool->Hp->Prop)->Prop
abbrev TA:=St->Hp->(List V->Hp->Prop)->Prop
structure Ends where
  nx:St->Hp->Prop
  rt:VK
  bk:St->Hp->Prop:=λ_ _=>False
  ct:St->Hp->Prop:=λ_ _=>False
abbrev TS:=Ends->St->Hp->Prop
def EP(X:Cx)(pins:List (av×fY))(U:St)(Q:VK)(u:ak)(s':ar):Prop:=∃v H',Inv X pins U H' s'/\RelV v u/\Q v H'
def TP(X:Cx)(pins:List (av×fY))(U:St)(Q:Bool->Hp->Prop)(b:Bool)(s':ar):Prop:=∃H',Inv X pins U H' s'/\Q b H'
def AP(X:Cx)(pins:List (av×fY))(U:St)(Q:List V->Hp->Prop)(us:List ak)(s':ar):Prop:=∃vs H',Inv X pins U H' s'/\Vals vs us/\Q vs H'
def SP(X:Cx)(pins:List (av×fY))(D:Ends)(f:Flow)(s':ar):Prop:=
  match f with
  |.next=>∃U' H',Inv X pins U' H' s'/\D.nx U' H'
  |.brk=>∃U' H',Inv X pins U' H' s'/\D.bk U' H'
  |.cont=>∃U' H',Inv X pins U' H' s'/\D.ct U' H'
  |.ret u=>∃v U' H',Inv X pins U' H' s'/\RelV v u/\D.rt v H'
def PE(X:Cx)(e:Expr)(t:TE):Prop:=
  ∀(pins:List (av×fY)) (s:ar) (U:St) (H:Hp) (Q:VK),Inv X pins U H s->t U H Q->aX (aV X.prog X.w) X.A (cK e X.env) (EP X pins U Q) X.xe s
def PT(X:Cx)(e:Expr)(t:TT):Prop:=
  ∀(pins:List (av×fY)) (s:ar) (U:St) (H:Hp) (Q:Bool->Hp->Prop),Inv X pins U H s->t U H Q->aX (aV X.prog X.w) X.A (CJ e X.env (cK e X.env)) (TP X pins U Q) X.xe s
def PW(X:Cx)(e:Expr)(t:TT):Prop:=
  ∀(whole:Af ak) (pins:List (av×fY)) (s:ar) (U:St) (H:Hp) (Q:Bool->Hp->Prop),Inv X pins U H s->t U H Q->aX (aV X.prog X.w) X.A (CJ e X.env whole) (TP X pins U Q) X.xe s
def PW.pt(h:PW X e t):PT X e t:=h _
def PA(X:Cx)(es:List Expr)(t:TA):Prop:=
  ∀(pos:fW) (pins:List (av×fY)) (s:ar) (U:St) (H:Hp) (Q:List V->Hp->Prop),Inv X pins U H s->t U H Q->aX (aV X.prog X.w) X.A (spliced (cM pos (au es X.env))) (AP X pins U Q) X.xe s
def PS(X:Cx)(st:iE)(t:TS):Prop:=
  ∀(pins:List (av×fY)) (s:ar) (U:St) (H:Hp) (D:Ends),Inv X pins U H s->t D U H->aX (aV X.prog X.w) X.A (exec st X.env) (SP X pins D) X.xe s
def PSs(X:Cx)(st:List iE)(t:TS):Prop:=
  ∀(pins:List (av×fY)) (s:ar) (U:St) (H:Hp) (D:Ends),Inv X pins U H s->t D U H->aX (aV X.prog X.w) X.A (execs st X.env) (SP X pins D) X.xe s
def thn{α:Type}{t:Af α}{Q Q':α->ar->Prop}{M:Model}{A:bS}{E:ak->ar->Prop}{s:ar}(h:aX M A t Q E s)(hQ:∀a s,Q a s->Q' a s):aX M A t Q' E s:=dU h hQ λ_ _ x=>x
section
variable {X:Cx}
def b8m(i:Nat):TE:=λU H Q=>∃v,U[i]?=cz (cz v)/\Q v H
def tC(v:V):TE:=λ_ H Q=>Q v H
def y8(hN:X.N[i]?=cz x)(hv:Vis X.env.scope x)(hd:autoParam ((x==("__debug__":bE))=yp) ZV._auto_1)(iC:autoParam ((x==("__classdict__":bE))=yp) ZV._auto_1):PE X (.Name x pos) (b8m i):=by
  intro pins s U H Q I h;obtain⟨v,e,h⟩:=h;obtain⟨m,hn,hl⟩:=I.loc;obtain⟨u,r,l⟩:=hl i x v hN e hv;have fin:EP X pins U Q u s:=⟨v,H,I,r,h⟩;rcases l with⟨hk,hm⟩|⟨hk,c,hc,mQ⟩
  · exact wpAny_Name (wpAny_loadName_local I.ok.kind hk hn hm fin) hd
  · rcases hk with hk|hk
    · exact wpAny_Name (wpAny_loadName_cell I.ok.kind hk hc mQ fin) hd
    · exact wpAny_Name (wpAny_loadName_free I.ok.kind hk hc mQ fin iC) hd
def a7J{i j pos}:PE X (.Constant (.int i) j pos) (tC (.int i)):=λ_ _ _ H _ I h=>wpAny_Constant_int ⟨.int i,H,I.tok _,⟨_,rfl⟩,h⟩
def c0I{b j pos}:PE X (.Constant (.bool b) j pos) (tC (.bl b)):=λ_ _ _ H _ I h=>Constant_bool ⟨.bl b,H,I,rfl,h⟩
def b8n{j pos}:PE X (.Constant .none j pos) (tC .non):=λ_ _ _ H _ I h=>Constant_none ⟨.non,H,I,rfl,h⟩
def Gl(X:Cx)(x:bE):Prop:=X.env.kindOf x=cz .globalImplicit
def a5q(I:Inv X pins U H s)(hg:Gl X x)(hm:X.mg x=cz u)(h:Q u s)
    (hd:autoParam ((x==("__debug__":bE))=yp) ZV._auto_1):aX (aV X.prog X.w) X.A (cK (.Name x pos) X.env) Q E s:=
  xc I.ok.kind hg (Calls.loadGlobal_global (by rw[I.ok.glob];exact I.mod.glob.keeps I.bk) hm h) hd
def a0u(I:Inv X pins U H s)(hg:Gl X x)(hm:X.mg x=xn)(hv:gY x=cz u)(h:Q u s)
    (hn:autoParam (x≠"__name__") ZV._auto_1) (hd:autoParam ((x==("__debug__":bE))=yp) ZV._auto_1):aX (aV X.prog X.w) X.A (cK (.Name x pos) X.env) Q E s:=by
  obtain⟨mb,h1,h2⟩:=I.mod.blt;exact xc I.ok.kind hg (Calls.loadGlobal_builtin (by rw[I.ok.glob];exact I.mod.glob.keeps I.bk) hm (by rw[I.ok.blt];exact h1.keeps I.bk) ((h2 x hn).trans hv) h) hd
def a9p(hg:Gl X x)(hm:X.mg x=cz u)(r:RelV v u)(hd:autoParam ((x==("__debug__":bE))=yp) ZV._auto_1):PE X (.Name x pos) (tC v):=
  λ_ _ _ H _ I h=>a5q I hg hm ⟨v,H,I,r,h⟩ hd
def b5D(hg:Gl X x)(hm:X.mg x=xn)(hv:gY x=cz u)(r:RelV v u)(hn:autoParam (x≠"__name__") ZV._auto_1)(hd:autoParam ((x==("__debug__":bE))=yp) ZV._auto_1):PE X (.Name x pos) (tC v):=
  λ_ _ _ H _ I h=>a0u I hg hm hv ⟨v,H,I,r,h⟩ hn hd
variable {a b:Expr}{ta tb:TE}{pos:fW}
def tB(t:TE):TT:=λU H Q=>t U H λx H1=>∃c,x=.bl c/\Q c H1
variable {tA As:TT}{rest:List Expr}
def tOr(t u:TT):TT:=λU H Q=>t U H λc H1=>if c=yn then Q yn H1 else u U H1 Q
def c2A(t:TT):TT:=λU H Q=>t U H λc H1=>Q (!c) H1
def b8o(ha:PT X a tA):PW X (.BoolOp .Or [a] pos) tA:=by
  intro wh pins s U H Q I h;refine isTrue_or (thn (ha pins s U H Q I h) λc s1 e=>?_);cases c with
  |false=>exact isTrue_or_nil e
  |true=>exact e
def c0J(ha:PT X a tA)(hb:PW X (.BoolOp .Or (b::rest) pos) As):PW X (.BoolOp .Or (a::b::rest) pos) (tOr tA As):=by
  intro wh pins s U H Q I h;refine isTrue_or (thn (ha pins s U H _ I h) λc s1 ⟨H1,I1,q1⟩=>?_);cases c with
  |true=>exact⟨H1,I1,q1⟩
  |false=>exact hb wh pins s1 U H1 Q I1 q1
def b8p(ha:PT X a tA):PT X (.UnaryOp .Not a pos) (c2A tA):=by
  intro pins s U H Q I h;exact isTrue_not (ha pins s U H (λc H1=>Q (!c) H1) I h)
def c0K(ta tb:TE):TE:=λU H Q=>ta U H λx H1=>∃c,x=.bl c/\if c=yn then tb U H1 Q else Q (.bl yp) H1
def c0L(ta:TE):TE:=λU H Q=>ta U H λx H1=>∃c,x=.bl c/\Q (.bl (!c)) H1
def b8q{op}(h:PE X a t):PE X (.BoolOp op [a] pos) t:=λpins s U H Q I hw=>BoolOp_one (h pins s U H Q I hw)
def b8r(ha:PE X a ta)(hb:PE X (.BoolOp .And (b::rest) pos) tb):PE X (.BoolOp .And (a::b::rest) pos) (c0K ta tb):=by
  intro pins s U H Q I h;refine BoolOp_and (thn (ha pins s U H _ I h) λv s1 ⟨x,H1,I1,r1,q1⟩=>?_);obtain⟨c,rfl,q1⟩:=q1;cases r1
  refine fm ?_;cases c with
  |true=>exact hb pins s1 U H1 Q I1 q1
  |false=>exact⟨.bl yp,H1,I1,rfl,q1⟩
def b8s(ha:PE X a ta):PE X (.UnaryOp .Not a pos) (c0L ta):=by
  intro pins s U H Q I h;refine UnaryOp_ (thn (ha pins s U H _ I h) λv s1 ⟨x,H1,I1,r1,q1⟩=>?_);obtain⟨c,rfl,q1⟩:=q1;cases r1
  exact not_of (fm ⟨.bl (!c),H1,I1,rfl,q1⟩)
end
def SqL(K:ag)(H:Hp)(a:av)(xs:List V):Prop:=
  Rd H a (.lst xs)\/
    ∃(o:fY) (its:Array ak) (n:Nat),K.lookup a=cz o/\o.cls=.type "list"/\o.dict=xn/\o.data=.seq its n/\its.size<=aZ/\Vals xs its.toList
def SqT(K:ag)(H:Hp)(a:av)(xs:List V):Prop:=
  Rd H a (.tup xs)\/
    ∃(o:fY) (its:Array ak) (n:Nat),K.lookup a=cz o/\o.cls=.type "tuple"/\o.data=.seq its n/\its.size<=aZ/\Vals xs its.toList
def c2B:ak->Option V
  |.none=>cz .non
  |.bool b=>cz (.bl b)
  |.int i _=>cz (.int i)
  |.str x _=>cz (.str x)
  |.bytes b _=>cz (.byt b)
  |.float b _=>cz (.flt b)
  |.ref a=>cz (.ref a)
  |.type n=>cz (.ty n)
  |_=>xn
def RelV.abs(r:RelV x u):c2B u=cz x:=by
  cases x with
  |non=>cases r;rfl
  |bl _=>cases r;rfl
  |int _=>obtain⟨t,rfl⟩:=r;rfl
  |str _=>obtain⟨t,rfl⟩:=r;rfl
  |byt _=>obtain⟨t,rfl⟩:=r;rfl
  |flt _=>obtain⟨t,rfl⟩:=r;rfl
  |ref _=>cases r;rfl
  |ty _=>cases r;rfl
def RelV.inj(r:RelV x u)(q:RelV y u):x=y:=aH (r.abs.symm.trans q.abs)
theorem Vals.inj:∀{xs ys:List V} {us:List ak},Vals xs us->Vals ys us->xs=ys
  |_,_,_,.nil,.nil=>rfl
  |_,_,_,.cons r t,.cons r' t'=>by rw[r.inj r',Vals.inj t t']
section
variable {X:Cx}{pins:List (av×fY)}{U:St}{H:Hp}{s:ar}{a:av}{xs ys:List V}
def SqL.of{K:ag}(h:H a=cz (.lst xs)):SqL K H a xs:=.inl (.inl h)
def SqT.of{K:ag}(h:H a=cz (.tup xs)):SqT K H a xs:=.inl (.inl h)
def Inv.list(I:Inv X pins U H s)(h:SqL X.K H a xs):∃its:List ak,Vals xs its/\PlainL s.heap a its.toArray/\xs.length<=aZ:=by
  rcases h with h|⟨o,its,n,hk,hc,hd,hs,hz,r⟩
  · obtain⟨z,its,n,r,e⟩:=h.ok I.hok
    exact⟨its,r,⟨_,n,e,rfl,rfl,rfl⟩,z⟩
  · refine⟨its.toList,r,⟨o,n,I.kIn a o hk,hc,hd,by simpa using hs⟩,?_⟩
    have e:=r.length;simp only[aP]at e;omega
def Inv.tuple(I:Inv X pins U H s)(h:SqT X.K H a xs):∃its:List ak,Vals xs its/\IsTup s.heap a its.toArray/\xs.length<=aZ:=by
  rcases h with h|⟨o,its,n,hk,hc,hs,hz,r⟩
  · obtain⟨z,its,r,p⟩:=h.ok I.hok
    exact⟨its,r,p,z⟩
  · refine⟨its.toList,r,⟨o,I.kIn a o hk,hc,n,by simpa using hs⟩,?_⟩
    have e:=r.length;simp only[aP]at e;omega
def Inv.list_inj(I:Inv X pins U H s)(h:SqL X.K H a xs)(h':SqL X.K H a ys):xs=ys:=by
  obtain⟨its,r,⟨o,n,e,_,_,d⟩,_⟩:=I.list h;obtain⟨its',r',⟨o',n',e',_,_,d'⟩,_⟩:=I.list h';rw[e]at e';cases e';rw[d]at d'
  injection d' with d1 _
  have:its=its':=by simpa using dE Array.toList d1
  subst this;exact r.inj r'
end
abbrev Cx.wish(X:Cx)(E:ak->ar->Prop):Cx:={X with xe:=E}
abbrev Cx.nox(X:Cx):Cx:=X.wish λ_ _=>False
theorem Cx.Ok.wish{X:Cx}(ok:X.Ok)(E:ak->ar->Prop):(X.wish E).Ok:=
  ⟨ok.mod,ok.kind,ok.glob,ok.blt,ok.above,ok.inj,ok.has,ok.cab,ok.hd,ok.frames,ok.stk,ok.exf,ok.bs,ok.bsz,ok.noex,ok.exfs,ok.funs,ok.frf,ok.tabs⟩
def Cx.Ok.unwish{X:Cx}(ok:(X.wish E).Ok):X.Ok:=
  ⟨ok.mod,ok.kind,ok.glob,ok.blt,ok.above,ok.inj,ok.has,ok.cab,ok.hd,ok.frames,ok.stk,ok.exf,ok.bs,ok.bsz,ok.noex,ok.exfs,ok.funs,ok.frf,ok.tabs⟩
section
variable {X:Cx}{pins:List (av×fY)}{U:St}{H:Hp}{s:ar}{E:ak->ar->Prop}
theorem Inv.wish(I:Inv X pins U H s)(E:ak->ar->Prop):Inv (X.wish E) pins U H s:=⟨I.ok.wish E,I.os,I.bare,I.base,I.loc,I.cell,I.free,I.freeC,I.pin,I.hok,I.len⟩
theorem Inv.unwish(I:Inv (X.wish E) pins U H s):Inv X pins U H s:=⟨I.ok.unwish,I.os,I.bare,I.base,I.loc,I.cell,I.free,I.freeC,I.pin,I.hok,I.len⟩
theorem SP.unwish(h:SP (X.wish E) pins D f s'):SP X pins D f s':=by
  cases f with
  |next=>obtain⟨U',H',I,q⟩:=h;exact⟨U',H',I.unwish,q⟩
  |brk=>obtain⟨U',H',I,q⟩:=h;exact⟨U',H',I.unwish,q⟩
  |cont=>obtain⟨U',H',I,q⟩:=h;exact⟨U',H',I.unwish,q⟩
  |ret u=>obtain⟨v,U',H',I,r,q⟩:=h;exact⟨v,U',H',I.unwish,r,q⟩
theorem PSs.nox{st:List iE}{t:TS}(h:PSs X.nox st t):PSs X st t:=λpins s U H D I hw=>
  dU (h pins s U H D (I.wish _) hw) (λ_ _ q=>q.unwish) λ_ _ z=>dC z
end
section
variable {X:Cx}{st:iE}{rest:List iE}{t u:TS}{e:Expr}{te:TE}{pos:fW}
def c0M:TS:=λD U H=>D.nx U H
def c2C(t u:TS):TS:=λD U H=>t {D with nx:=u D} U H
def b5E:PSs X [] c0M:=λ_ _ U H _ I h=>mM ⟨U,H,I,h⟩
def a0L(h1:PS X st t)(h2:PSs X rest u):PSs X (st::rest) (c2C t u):=by
  intro pins s U H D I h;refine wpAny_execs_cons (thn (h1 pins s U H {D with nx:=u D} I h) λf s1 q=>?_);cases f with
  |next=>
    obtain⟨U',H',I',q⟩:=q;exact h2 pins s1 U' H' D I' q
  |ret v=>exact q
  |brk=>exact q
  |cont=>exact q
def a9q(h1:PS X st t):PSs X [st] t:=by
  intro pins s U H D I h;refine wpAny_execs_cons (thn (h1 pins s U H D I h) λf s1 q=>?_);cases f with
  |next=>exact mM q
  |ret v=>exact q
  |brk=>exact q
  |cont=>exact q
def Inv.quiet{pins:List (av×fY)}{U:St}{H:Hp}{s:ar}(I:Inv X pins U H s):interactive X.env=yp:=by simp[interactive,I.ok.kind]
def c0N(te:TE):TS:=λD U H=>te U H λ_ H1=>D.nx U H1
def R8(he:PE X e te)(hs:eR e xn pos.line X.env=pure yp:=by rfl):PS X (.Expr e pos) (c0N te):=by
  intro pins s U H D I h;exact wpAny_Expr_any (thn (he pins s U H _ I h) λv s1 ⟨x,H1,I1,r1,q1⟩=>⟨U,H1,I1,q1⟩) I.quiet hs
def c2D(te:TE):TS:=λD U H=>te U H D.rt
def b8t(he:PE X e te):PS X (.Return (cz e) pos) (c2D te):=by
  intro pins s U H D I h;exact wpAny_Return_some (thn (he pins s U H _ I h) λv s1 ⟨x,H1,I1,r1,q1⟩=>⟨x,U,H1,I1,r1,q1⟩)
def c2E(c:TT)(t u:TS):TS:=λD U H=>c U H λb H1=>if b=yn then t D U H1 else u D U H1
def c0O{c:Expr}{a b:List iE}{tc:TT}(hc:PT X c tc)(ha:PSs X a t)(hb:PSs X b u):PS X (.If c a b pos) (c2E tc t u):=by
  intro pins s U H D I h;refine wpAny_If (thn (hc pins s U H _ I h) λd s1 ⟨H1,I1,q1⟩=>?_);cases d with
  |true=>exact ha pins s1 U H1 D I1 q1
  |false=>exact hb pins s1 U H1 D I1 q1
def b8u:TS:=λ_ _ _=>False
def b2D:PS X st b8u:=λ_ _ _ _ _ _ h=>h.elim
end
abbrev TG:=V->St->Hp->(St->Hp->Prop)->Prop
abbrev TGs:=List V->St->Hp->(St->Hp->Prop)->Prop
def PG(X:Cx)(target:Expr)(t:TG):Prop:=
  ∀(pins:List (av×fY)) (s:ar) (U:St) (H:Hp) (v:V) (u:ak) (Q:St->Hp->Prop),Inv X pins U H s->RelV v u->t v U H Q->
    aX (aV X.prog X.w) X.A (lG target X.env u) (λ_ s'=>∃U' H',Inv X pins U' H' s'/\Q U' H') X.xe s
def PGs(X:Cx)(ts:List Expr)(t:TGs):Prop:=
  ∀(pins:List (av×fY)) (s:ar) (U:St) (H:Hp) (vs:List V) (us:List ak) (Q:St->Hp->Prop),Inv X pins U H s->Vals vs us->t vs U H Q->
    aX (aV X.prog X.w) X.A (assignInOrder ((gR ts X.env).map (·.2)) us) (λ_ s'=>∃U' H',Inv X pins U' H' s'/\Q U' H') X.xe s
abbrev b8v:=V->V->V->Hp->(Hp->Prop)->Prop
def c0P(X:Cx)(t:b8v):Prop:=
  ∀(pins:List (av×fY)) (s:ar) (U:St) (H:Hp) (o i v:V) (ov iv u:ak) (Q:Hp->Prop),Inv X pins U H s->RelV o ov->RelV i iv->RelV v u->t o i v H Q->
    aX (aV X.prog X.w) X.A (Co ov iv u) (λ_ s'=>∃H',Inv X pins U H' s'/\Q H') X.xe s
abbrev TIp:=V->V->Hp->VK->Prop
def PIp(X:Cx)(op:Operator)(t:TIp):Prop:=
  ∀(pins:List (av×fY)) (s:ar) (U:St) (H:Hp) (x y:V) (v u:ak) (Q:VK),Inv X pins U H s->RelV x v->RelV y u->t x y H Q->
    aX (aV X.prog X.w) X.A (inplaceOp op v u) (EP X pins U Q) X.xe s
section
variable {X:Cx}{pos:fW}
def D0(i:Nat):TG:=λv U H Q=>Q (U.set i (cz v)) H
def o6(hN:X.N.Nodup)(hi:X.N[i]?=cz x)(hx:Loc X.env.scope x)(hf:autoParam (X.fn x=yn\/X.env.scope.names.lookup x=cz .local) ZZ._auto_1):PG X (.Name x pos) (D0 i):=by
  intro pins s U H v u Q I r h;exact wpAny_assign_Name (a0K I hN hi hx r (λs' I'=>⟨_,H,I',h⟩) hf)
def b5F:TGs:=λvs U H Q=>vs=[]/\Q U H
def a2Q(t:TG)(u:TGs):TGs:=λvs U H Q=>∃v r,vs=v::r/\t v U H λU' H'=>u r U' H' Q
def R9:PGs X [] b5F:=by
  intro pins s U H vs us Q I r h;obtain⟨e,h⟩:=h;subst e;cases r
  exact assignInOrder_nil ⟨U,H,I,h⟩
def u8{e:Expr}{es:List Expr}{t:TG}{u:TGs}(h1:PG X e t)(h2:PGs X es u)
    (hs:(gR (e::es) X.env).map (·.2)=lG e X.env::(gR es X.env).map (·.2):=by rfl):PGs X (e::es) (a2Q t u):=by
  intro pins s U H vs us Q I r h;obtain⟨v,vr,e1,h⟩:=h;subst e1;cases r with
  |cons r rr=>
    rw[hs];refine assignInOrder_cons (thn (h1 pins s U H _ _ _ I r h) λ_ s1 ⟨U1,H1,I1,q1⟩=>?_);exact h2 pins s1 U1 H1 _ _ Q I1 rr q1
def b8w(K:ag)(n:Nat)(t:TGs):TG:=λv U H Q=>∃a xs,v=.ref a/\SqT K H a xs/\xs.length=n/\t xs U H Q
def a1p(hc:X.calm=yn)(h:PGs X es t)
    (hn:(gR es X.env).length=n:=by rfl) (qo:(gR es X.env).findIdx? (·.1)=xn:=by rfl):PG X (.Tuple es k pos) (b8w X.K n t):=by
  intro pins s U H v u Q I r hw;obtain⟨a,xs,e1,hq,hl,hw⟩:=hw;subst e1;cases r
  obtain⟨its,rv,ht,hz⟩:=I.tuple hq;refine assign_Tuple_tuple (I.ok.hd hc) ht (by simp[hn,<-hl,rv.length]) qo λh' hx=>?_
  have I1:Inv X pins U H {s with heap:=h'}:=I.kept (t':=s.toks) λb o e=>hx b o (bP (aU e)) e
  exact h pins _ U H xs _ Q I1 (by simpa using rv) hw
def c2F(to ti:TE)(t:b8v):TG:=λv U H Q=>to U H λo H1=>ti U H1 λi H2=>t o i v H2 λH3=>Q U H3
def b8x{o i:Expr}{to ti:TE}{t:b8v}(ho:PE X o to)(hi:PE X i ti)(hs:c0P X t)
    (ha:∀v,lG (.Subscript o i pos) X.env v=(do
      let ov <-oq [v] (cK o X.env)
      let iv <-oq [v,ov] (cK i X.env)
      Cn pos
      oq [v,ov,iv] (Co ov iv v)
      release [v,ov,iv] []):=by intro _;rfl):PG X (.Subscript o i pos) (c2F to ti t):=by
  intro pins s U H v u Q I r h;rw[ha];refine ae (cY (thn (ho pins s U H _ I h) λov s1 ⟨x,H1,I1,r1,q1⟩=>?_));refine ae (cY (thn (hi pins s1 U H1 _ I1 q1) λiv s2 ⟨y,H2,I2,r2,q2⟩=>?_));refine ae (lC (ae (cY (thn (hs pins s2 U H2 x y v ov iv u _ I2 r1 r2 r q2) λ_ s3 ⟨H3,I3,q3⟩=>?_))));exact wpAny_release ⟨U,H3,I3,q3⟩
def b8y(te:TE)(g:TG):TS:=λD U H=>te U H λx H1=>g x U H1 D.nx
def b2E{tg e:Expr}{te:TE}{g:TG}(he:PE X e te)(hg:PG X tg g)(hs:yf [tg] e pos.line X.env=pure yp:=by rfl)(hw:yg [tg] e X.env=pure xn:=by rfl)
    (h1:(gR [tg] X.env).map (·.2)=[lG tg X.env]:=by rfl):PS X (.Assign [tg] e pos) (b8y te g):=by
  intro pins s U H D I h;refine wpAny_Assign_stores (thn (he pins s U H _ I h) λv s1 ⟨x,H1,I1,r1,q1⟩=>?_) hs hw;rw[h1];exact thn (hg pins s1 U H1 x v _ I1 r1 q1) λ_ s2 q=>q
def a7K{i:Nat}{x:bE}{e:Expr}{te:TE}{pos':fW}(hN:X.N.Nodup)(hi:X.N[i]?=cz x)(hx:Loc X.env.scope x)(he:PE X e te)(hs:eR e (cz (.Name x pos')) pos.line X.env=pure yp:=by rfl)(hf:autoParam (X.fn x=yn\/X.env.scope.names.lookup x=cz .local) ZZ._auto_1) :
    PS X (.Assign [.Name x pos'] e pos) (b8y te (D0 i)):=by
  intro pins s U H D I h;refine wpAny_Assign_Name (thn (he pins s U H _ I h) λv s1 ⟨y,H1,I1,r1,q1⟩=>?_) hs;exact a0K I1 hN hi hx r1 (λs2 I2=>⟨_,H1,I2,q1⟩) hf
def c2G(i:Nat)(te:TE)(ti:TIp):TS:=λD U H=>∃x,U[i]?=cz (cz x)/\te U H λy H1=>ti x y H1 λz H2=>D.nx (U.set i (cz z)) H2
def b8z{i:Nat}{x:bE}{e:Expr}{te:TE}{op:Operator}{ti:TIp}{pos':fW}(hN:X.N.Nodup)(hi:X.N[i]?=cz x)(hx:Loc X.env.scope x)(he:PE X e te)(ho:PIp X op ti)(hf:autoParam (X.fn x=yn\/X.env.scope.names.lookup x=cz .local) ZZ._auto_1) :
    PS X (.AugAssign (.Name x pos') op e pos) (c2G i te ti):=by
  intro pins s U H D I h;obtain⟨v,e1,h⟩:=h;obtain⟨m,hn,hl⟩:=I.loc;have Cg:Vis X.env.scope x:=by rcases hx with k|k;exact .inl k;exact .inr (.inl k)
  obtain⟨u,r,l⟩:=hl i x v hi e1 Cg;refine wpAny_AugAssign_Name ?_;have go:aX (aV X.prog X.w) X.A (cK e X.env) (λw s₂=>aX (aV X.prog X.w) X.A (inplaceOp op u w) (λr s₃=>aX (aV X.prog X.w) X.A (storeName X.env x r) (λ_=>SP X pins D .next) X.xe s₃) X.xe s₂) X.xe s:=by
    refine thn (he pins s U H _ I h) λw s1 ⟨y,H1,I1,r1,q1⟩=>?_
    refine thn (ho pins s1 U H1 v y u w _ I1 r r1 q1) λz s2 ⟨zv,H2,I2,r2,q2⟩=>?_
    exact a0K I2 hN hi hx r2 (λs3 I3=>⟨_,H2,I3,q2⟩) hf
  rcases l with⟨hk,hm⟩|⟨hk,c,hc,mQ⟩
  · exact wpAny_loadName_local I.ok.kind hk hn hm go
  · rcases hk with hk|hk
    · exact wpAny_loadName_cell I.ok.kind hk hc mQ go
    · rcases hx with k|k
      · have:X.env.scope.names.lookup x=cz .free:=hk
        rw[k]at this;cases this
      · have:X.env.scope.names.lookup x=cz .free:=hk
        rw[k]at this;cases this
def ipI(f:Int->Int->Int):TIp:=λx y H Q=>∃i j,x=.int i/\y=.int j/\Q (.int (f i j)) H
def b8A:PIp X .Add (ipI λi j=>i+j):=by
  intro pins s U H x y v u Q I r1 r2 h;obtain⟨i,j,e1,e2,q⟩:=h;subst e1;subst e2;obtain⟨t,rfl⟩:=r1;obtain⟨t',rfl⟩:=r2;exact iadd_int ⟨.int _,H,I.tok _,⟨_,rfl⟩,q⟩
def b8B(c:TT)(tb:TS):TS:=λD U H=>∃W:Nat->St->Hp->Prop,(∃m,W m U H)/\∀m U H,W m U H->
  c U H λb H1=>if b=yn then ∃N:St->Hp->Prop,(∀U' H',N U' H'->∃m',m'<m/\W m' U' H')/\tb {D with nx:=N,ct:=N,bk:=D.nx} U H1 else D.nx U H1
def b2F{c:Expr}{body:List iE}{tc:TT}{tb:TS}(hp:ow (aV X.prog X.w) X.A X.env X.xe)(hc:PT X c tc)(hb:PSs X body tb):PS X (.While c body [] pos) (b8B tc tb):=by
  intro pins s U H D I h;obtain⟨W,⟨m0,w0⟩,turn⟩:=h;refine wpAny_While (codeAny_whileLoop (λn s'=>∃U' H',Inv X pins U' H' s'/\W n U' H') ?_ m0 ⟨U,H,I,w0⟩);rintro n s1 ⟨U1,H1,I1,w1⟩;refine gB hp (thn (hc pins s1 U1 H1 _ I1 (turn n U1 H1 w1)) λb s2 ⟨H2,I2,q2⟩=>?_);cases b with
  |true=>
    obtain⟨N,hN,q2⟩:=q2;rw[aB rfl];refine gB hp (thn (hb pins s2 U1 H2 _ I2 q2) λf s3 q3=>?_);cases f with
    |next=>
      obtain⟨U3,H3,I3,n3⟩:=q3;obtain⟨m',hm,w3⟩:=hN U3 H3 n3;exact⟨m',hm,U3,H3,I3,w3⟩
    |cont=>
      obtain⟨U3,H3,I3,n3⟩:=q3;obtain⟨m',hm,w3⟩:=hN U3 H3 n3;exact⟨m',hm,U3,H3,I3,w3⟩
    |brk=>exact q3
    |ret v=>exact q3
  |false=>
    rw[aJ bU];exact mM ⟨U1,H2,I2,q2⟩
end
structure It where
  go:Nat->Hp->Prop
  yld:Nat->Hp->V->Hp->Prop
  stop:Nat->Hp->Prop
def a4j(X:Cx)(pins:List (av×fY))(H:Hp)(b:av):Prop:=
  H b=xn/\b≠X.env.locals/\b∉X.fs/\(b∈X.ex\/X.s₀.heap.objs.size<=b)/\(∀x c,X.env.cells.lookup x=cz c->c≠b)/\∀p∈X.pn++pins,p.1≠b
def Inv.fpOk(I:Inv X pins U H s)(hb:s.heap.objs.size<=b)(hn:H' b=xn):a4j X pins H' b:=by
  refine⟨hn,jF (bo I.lt hb),I.nofs hb,.inr (cF I.sz hb),λx c e z=>?_,λp hp z=>?_⟩
  · obtain⟨v,q⟩:=I.cell x c e
    exact absurd (bo q.lt (by rw[z];exact hb)) (dR _)
  · exact absurd (bo (aU (I.pin p hp).1) (by rw[z];exact hb)) (dR _)
structure Turn (P:bB) (w:bZ) (K:ag) (tg:Expr) (J:It) (fp:List av) (it:av) (tn:Nat->cS->Prop):Prop where
  mem:it∈fp
  obj:∀i h,tn i h->∀b∈fp,∃o,h.get? b=cz o/\∀v,o.data≠.cell v
  keep:∀i h h',tn i h->(∀b∈fp,∀o,h.get? b=cz o->h'.get? b=cz o)->tn i h'
  item:∀(X:Cx),X.prog=P->X.w=w->X.K=K->X.calm=yn->∀(i:Nat) (pins:List (av×fY)) (s:ar) (U:St) (H:Hp) (E:ak->ar->Prop),Inv X pins U H s->(∀b∈fp,a4j X pins H b)->tn i s.heap->J.go i H->
    aX (aV P w) X.A (ve (.ref it)) (λr s1=>∃u,r=cz u/\
      aX (aV P w) X.A (mN tg (.ref it) u) (λ_ s2=>∃x H',Inv X pins U H' s2/\RelV x u/\J.yld i H x H'/\tn (i+1) s2.heap/\∀b∈fp,H' b=xn) E s1) E s
  done:∀(X:Cx),X.prog=P->X.w=w->X.K=K->X.calm=yn->∀(i:Nat) (pins:List (av×fY)) (s:ar) (U:St) (H:Hp) (E:ak->ar->Prop),Inv X pins U H s->(∀b∈fp,a4j X pins H b)->tn i s.heap->J.stop i H->
    aX (aV P w) X.A (ve (.ref it)) (λr s1=>r=xn/\Inv X pins U H s1) E s
  self:∀(A:bS) (i:Nat) (s:ar) (Q:ak->ar->Prop) (E:ak->ar->Prop),tn i s.heap->Q (.ref it) s->aX (aV P w) A (pyIter (.ref it)) Q E s
abbrev TI:=St->Hp->(It->Hp->Prop)->Prop
def PIE(X:Cx)(pins:List (av×fY))(U:St)(tg:Expr)(R:It->Hp->Prop)(yA:ak)(s2:ar):Prop:=
  ∃(it:av) (fp:List av) (tn:Nat->cS->Prop) (J:It) (H':Hp),yA=.ref it/\Inv X pins U H' s2/\Turn X.prog X.w X.K tg J fp it tn/\tn 0 s2.heap/\(∀b∈fp,a4j X pins H' b)/\R J H'
def PI(X:Cx)(tg iter:Expr)(wi:TI):Prop:=
  ∀(pins:List (av×fY)) (s:ar) (U:St) (H:Hp) (R:It->Hp->Prop),Inv X pins U H s->wi U H R->
    aX (aV X.prog X.w) X.A (cK iter X.env) (λv s1=>aX (aV X.prog X.w) X.A (pyIter v) (PIE X pins U tg R) X.xe s1) X.xe s
def b2G{s:ar}(ho:s.heap.get? it=cz o)(hc:o.cls=.type n)(hd:o.data=.fields vs)
    (hn:["enumerate","zip","dict_itemiterator","dict_reverseitemiterator","odict_iterator","itertools.zip_longest","itertools.pairwise"].contains n=yp) (hQ:Q () s):aX M A (mN tg (.ref it) u) Q E s:=by
  unfold mN;cases tg<;>first
    |exact aE hQ
    | (cases u<;>first
        |exact aE hQ
        | (refine ae (wpAny_load ho ?_)
           rw[hc,hd];show aX M A (if (["enumerate","zip","dict_itemiterator","dict_reverseitemiterator","odict_iterator","itertools.zip_longest","itertools.pairwise"].contains n&&vs[0]?==cz (iB _))=yn then _ else _) Q E s;rw[aJ (by intro h;rw[hn,Bool.false_and]at h;cases h)];exact aE hQ))
def Itl(K:ag)(a:av):It:=
  ⟨λi H=>∃xs x,SqL K H a xs/\xs[i]?=cz x,λi H x H'=>H'=H/\∀xs,SqL K H a xs->xs[i]?=cz x,λi H=>∃xs,SqL K H a xs/\xs.length<=i⟩
def Itr(lo:Int)(n:Nat):It:=⟨λi _=>i<n,λi H x H'=>H'=H/\x=.int (lo+i),λi _=>n<=i⟩
def b0M{P:bB}{w:bZ}{K:ag}{tg:Expr}(a it:av):Turn P w K tg (Itl K a) [it] it (λi h=>h.IsListIter it a i) where
  mem:=by simp
  obj:=λi h st b hb=>by
    have e:b=it:=by simpa using hb
    subst e;obtain⟨o,e,c,d⟩:=st;exact⟨o,e,λv z=>by rw[d]at z;cases z⟩
  keep:=λi h h' st k=>st.at λo e=>k it (by simp) o e
  item:=by
    intro X hP hw hK hc i pins s U H E I hf st hg;subst hP hw hK;obtain⟨xs,x,hq,hx⟩:=hg;obtain⟨its,rv,p,hz⟩:=I.list hq;obtain⟨u,hu,ru⟩:=rv.get hx;obtain⟨f0,f1,f2,f3,f4,f5⟩:=hf it (by simp);refine wpAny_pyNext_list_item st p.isList (x:=u) (by simpa using hu) λh' cL sb=>?_
    have I1:Inv X pins U H {s with heap:=h'}:=I.turned (t':=s.toks) (λb o hb e=>(sb.2 b hb).trans e) f0 f1 f3 f4 f5;obtain⟨o,e,c,d⟩:=id cL;exact⟨u,rfl,b2G (s:={s with heap:=h'}) e c d (by decide) ⟨x,H,I1,ru,⟨rfl,λys hy=>by rw[I.list_inj hy hq];exact hx⟩,cL,λb hb=>(hf b hb).1⟩⟩
  done:=by
    intro X hP hw hK hc i pins s U H E I hf st hg;subst hP hw hK;obtain⟨xs,hq,hx⟩:=hg;obtain⟨its,rv,p,hz⟩:=I.list hq;obtain⟨f0,f1,f2,f3,f4,f5⟩:=hf it (by simp);have hl:=rv.length;exact wpAny_pyNext_list_end (I.ok.hd hc) st p.isList (by simp;omega) λh' eb=>⟨rfl,I.turned (t':=s.toks) (λb o hb e=>eb b o hb e) f0 f1 f3 f4 f5⟩
  self:=λ_ _ _ _ _ st h=>wpAny_pyIter_listiter st h
def a7L{P:bB}{w:bZ}{K:ag}{tg:Expr}(it:av)(lo:Int)(n:Nat):Turn P w K tg (Itr lo n) [it] it (λi h=>IsRangeIter h it (lo+(i:Nat)*1) ((n:Int)-(i:Nat)) 1) where
  mem:=by simp
  obj:=λi h st b hb=>by
    have e:b=it:=by simpa using hb
    subst e;exact⟨_,st,λv z=>by
      have z':Data.fields _=Data.cell v:=z;cases z'⟩
  keep:=λi h h' st k=>k it (by simp) _ st
  item:=by
    intro X hP hw hK hc i pins s U H E I hf st hg;subst hP hw hK;obtain⟨f0,f1,f2,f3,f4,f5⟩:=hf it (by simp);have W:=Walks.range (prog:=X.prog) (w:=X.w) (I.ok.hd hc) it lo 1 n;refine W.item i s _ _ hg st λv h' tk hv cL kk=>?_
    obtain⟨t,rfl⟩:=hv;have I1:Inv X pins U H {s with heap:=h',toks:=tk}:=I.turned (λb o hb e=>kk b o (by simpa using hb) e) f0 f1 f3 f4 f5;refine⟨_,rfl,b2G (s:={s with heap:=h',toks:=tk}) (n:="range_iterator") cL rfl rfl (by decide) ⟨.int (lo+i),H,I1,⟨t,?_⟩,⟨rfl,rfl⟩,cL,λb hb=>(hf b hb).1⟩⟩;rw[Int.mul_one]
  done:=by
    intro X hP hw hK hc i pins s U H E I hf st hg;subst hP hw hK;obtain⟨f0,f1,f2,f3,f4,f5⟩:=hf it (by simp);exact wpAny_pyNext_range_end (I.ok.hd hc) st (by have:n<=i:=hg;omega) λh' eb=>⟨rfl,I.turned (t':=s.toks) (λb o hb e=>eb b o hb e) f0 f1 f3 f4 f5⟩
  self:=λ_ _ _ _ _ st h=>wpAny_pyIter_rangeiter st h
section
variable {X:Cx}{tg:Expr}
def c0Q(K:ag)(tl:TE):TI:=λU H R=>tl U H λx H1=>∃a,x=.ref a/\(∃xs,SqL K H1 a xs)/\R (Itl K a) H1
def a9r{l:Expr}{tl:TE}(hl:PE X l tl):PI X tg l (c0Q X.K tl):=by
  intro pins s U H R I h;refine thn (hl pins s U H _ I h) λv s1 ⟨x,H1,I1,r1,q1⟩=>?_
  obtain⟨a,e,⟨xs,hq⟩,q⟩:=q1;subst e;cases r1
  obtain⟨its,rv,p,hz⟩:=I1.list hq;refine wpAny_pyIter_list p.isList ?_;refine⟨s1.heap.objs.size,[s1.heap.objs.size],_,_,H1,rfl,I1.kept (t':=s1.toks) λb o e=>aG _ e,b0M a _,⟨_,bh _ rfl,rfl,rfl⟩,λb hb=>?_,q⟩;have e:b=s1.heap.objs.size:=by simpa using hb
  subst e;exact I1.fpOk (ay _) (I1.hok.fresh (ay _))
def b2H{pins:List (av×fY)}{U:St}{H:Hp}{s:ar}{R:It->Hp->Prop}{E:ak->ar->Prop}{lo hi:Int}{t u v:Tok}{tk:Nat}(I:Inv X pins U H s)(h1:-(2^62)<=lo)(h2:lo<2^62)(h3:-(2^62)<=hi)(h4:hi<2^62)
    (q:R (Itr lo (hi-lo).toNat) H):aX (aV X.prog X.w) X.A (pyIter (.ref s.heap.objs.size)) (PIE X pins U tg R) E {s with heap:=s.heap.push {cls:=.type "range",data:=.fields #[.int lo t,.int hi u,.int 1 v]},toks:=tk}:=by
  refine wpAny_pyIter_range (IsRange.new ..) (small_one h1 h2 h3 h4) ?_;have I1:Inv X pins U H {s with heap:=s.heap.push {cls:=.type "range",data:=.fields #[.int lo t,.int hi u,.int 1 v]},toks:=tk}:=I.kept λb o e=>aG _ e
  refine⟨(s.heap.push {cls:=.type "range",data:=.fields #[.int lo t,.int hi u,.int 1 v]}).objs.size,[(s.heap.push {cls:=.type "range",data:=.fields #[.int lo t,.int hi u,.int 1 v]}).objs.size],_,_,H,rfl,
    I1.kept (t':=tk) λb o e=>aG _ e,a7L _ lo (hi-lo).toNat,?_,λb hb=>?_,q⟩
  · have e1:lo+((0:Nat):Int)*1=lo:=by simp
    have e2:(((hi-lo).toNat:Nat):Int)-((0:Nat):Int)=Builtin.Range.rangeSize lo hi 1:=by rw[rangeSize_one];split<;>omega
    show IsRangeIter _ _ (lo+((0:Nat):Int)*1) ((((hi-lo).toNat:Nat):Int)-((0:Nat):Int)) 1;rw[e1,e2];exact bh _ rfl
  · have e:b=(s.heap.push {cls:=.type "range",data:=.fields #[.int lo t,.int hi u,.int 1 v]}).objs.size:=by simpa using hb
    subst e;exact I1.fpOk (ay _) (I1.hok.fresh (ay _))
def c0R(ta:TA):TI:=λU H R=>ta U H λvs H1=>∃j:Int,vs=[.int j]/\-(2^62)<=j/\j<2^62/\R (Itr 0 j.toNat) H1
def b0N{a:Expr}{ta:TA}{p pos:fW}(hg:Gl X "range")(hm:X.mg "range"=xn)(ha:PA X [a] ta)(hs:au [a] X.env=[(yp,cK a X.env)]:=by rfl):PI X tg (.Call (.Name "range" p) [a] [] pos) (c0R ta):=by
  intro pins s U H R I h;refine Call_ (a0u I hg hm boot_range (gw (thn (ha pos pins s U H _ I h) λus s1 ⟨vs,H1,I1,r1,q1⟩=>?_) hs rfl));obtain⟨j,e,q1,q2,q⟩:=q1;subst e;cases r1 with
  |cons r rr=>
    cases rr
    obtain⟨t,rfl⟩:=r;exact call_range_1 (b2H I1 (by omega) (by omega) q1 q2 (by simpa using q))
def c2H(wi:TI)(g:TG)(tb:TS):TS:=λD U H=>wi U H λJ H1=>∃W:Nat->Nat->St->Hp->Prop,(∃m,W 0 m U H1)/\∀i m U H,W i m U H->
  (J.stop i H/\D.nx U H)\/(J.go i H/\∃N:St->Hp->Prop,(∀U' H',N U' H'->∃m',m'<m/\W (i+1) m' U' H')/\∀x H',J.yld i H x H'->g x U H' λU2 H2=>tb {D with nx:=N,ct:=N,bk:=D.nx} U2 H2)
def a5r(fp:List av)(h:cS):List (av×fY):=fp.filterMap λb=>(h.get? b).map λo=>(b,o)
def C2{h:cS}(hb:b∈fp)(e:h.get? b=cz o):(b,o)∈a5r fp h:=dW.mpr ⟨b,hb,by rw[e];rfl⟩
def b0O(hp:p∈a5r fp h):p.1∈fp/\h.get? p.1=cz p.2:=by
  obtain⟨b,hb,e⟩:=dW.mp hp;cases q:h.get? b with
  |none=>rw[q]at e;cases e
  |some o=>
    rw[q]at e;have e':(b,o)=p:=aH e;subst e';exact⟨hb,q⟩
def Inv.pinned(I:Inv X pins U H s)(hf:∀b∈fp,a4j X pins H b)(ho:∀b∈fp,∃o,s.heap.get? b=cz o/\∀v,o.data≠.cell v):Inv X (pins++a5r fp s.heap) U H s:=
  I.pins_of λp hp=>(ao.mp hp).elim (λz=>I.pin p (ah _ z)) λz=>by
    obtain⟨hb,e⟩:=b0O z;obtain⟨f0,f1,f2,_⟩:=hf p.1 hb;obtain⟨o,e',d⟩:=ho p.1 hb;rw[e]at e';cases e';exact⟨e,f0,f1,f2,d⟩
def Inv.unpinned(I:Inv X (pins++pl) U H s):Inv X pins U H s:=I.pins_of λp hp=>I.pin p (ah _ (aj _ hp))
def a7M(hp:ow (aV X.prog X.w) X.A X.env X.xe)(hc:X.calm=yn)(hi:PI X tg iter wi)(hg:PG X tg g)(hb:PSs X body tb)
    (hs:∀x,dM iter X.env x=pure x:=by intro _;rfl):PS X (.For tg iter body [] pos) (c2H wi g tb):=by
  intro pins s U H D I h;refine wpAny_For (thn (hi pins s U H _ I h) λv s1 h1=>thn h1 λyA s2 h2=>?_) hs;obtain⟨it,fp,tn,J,H2,e,I2,T,k_,f2,W,⟨m0,w0⟩,turn⟩:=h2;subst e;have oA:∀{H':Hp},(∀b∈fp,H' b=xn)->∀b∈fp,a4j X pins H' b:=λhn b hb=>⟨hn b hb,(f2 b hb).2⟩
  refine codeAny_forLoop_any (λn s'=>∃i U' H',Inv X pins U' H' s'/\tn i s'.heap/\(∀b∈fp,H' b=xn)/\W i n U' H') ?_ m0 ⟨0,U,H2,I2,k_,λb hb=>(f2 b hb).1,w0⟩;rintro n s3 ⟨i,U3,H3,I3,jA,wO,w3⟩;rcases turn i n U3 H3 w3 with⟨stop,qn⟩|⟨go,N,hN,step⟩
  · refine gB hp (thn (T.done X rfl rfl rfl hc i pins s3 U3 H3 X.xe I3 (oA wO) jA stop) λr s4 ⟨hr,I4⟩=>?_)
    subst hr;exact mM ⟨U3,H3,I4,qn⟩
  · refine gB hp (thn (T.item X rfl rfl rfl hc i pins s3 U3 H3 X.xe I3 (oA wO) jA go) λr s4 ⟨u,hr,h4⟩=>?_)
    subst hr;refine gB hp (thn h4 λ_ s5 ⟨x,H5,I5,r5,y5,pY,zW⟩=>?_);have Ao:=I5.pinned (oA zW) (T.obj _ _ pY);refine gB hp (thn (hg _ s5 U3 H5 x u _ Ao r5 (step x H5 y5)) λ_ s6 ⟨U6,H6,I6,q6⟩=>?_);refine gB hp (thn (hb _ s6 U6 H6 _ I6 q6) λf s7 q7=>?_);have again:∀{U7:St} {H7:Hp},Inv X (pins++a5r fp s5.heap) U7 H7 s7->N U7 H7->∃m,m<n/\∃i U' H',Inv X pins U' H' s7/\tn i s7.heap/\(∀b∈fp,H' b=xn)/\W i m U' H':=λ{U7 H7} I7 n7=>by
      obtain⟨m',hm,w7⟩:=hN U7 H7 n7;refine⟨m',hm,i+1,U7,H7,I7.unpinned,T.keep _ _ _ pY λb hb o e=>(I7.pin (b,o) (ah _ (ah _ (C2 hb e)))).1,λb hb=>?_,w7⟩;obtain⟨o,e,d⟩:=T.obj _ _ pY b hb;exact (I7.pin (b,o) (ah _ (ah _ (C2 hb e)))).2.1
    cases f with
    |next=>obtain⟨U7,H7,I7,n7⟩:=q7;exact again I7 n7
    |cont=>obtain⟨U7,H7,I7,n7⟩:=q7;exact again I7 n7
    |brk=>obtain⟨U7,H7,I7,q7⟩:=q7;exact⟨U7,H7,I7.unpinned,q7⟩
    |ret v=>obtain⟨x7,U7,H7,I7,r7,q7⟩:=q7;exact⟨x7,U7,H7,I7.unpinned,r7,q7⟩
end
abbrev R2:=V->V->Hp->VK->Prop
def OpR(X:Cx)(f:ak->ak->Af ak)(r:R2):Prop:=
  ∀(pins:List (av×fY)) (s:ar) (U:St) (H:Hp) (x y:V) (v u:ak) (Q:VK),Inv X pins U H s->RelV x v->RelV y u->r x y H Q->
    aX (aV X.prog X.w) X.A (f v u) (EP X pins U Q) X.xe s
def UnR(X:Cx)(f:ak->Af ak)(r:V->Hp->VK->Prop):Prop:=
  ∀(pins:List (av×fY)) (s:ar) (U:St) (H:Hp) (x:V) (v:ak) (Q:VK),Inv X pins U H s->RelV x v->r x H Q->
    aX (aV X.prog X.w) X.A (f v) (EP X pins U Q) X.xe s
def CallR(X:Cx)(f:ak)(r:List V->Hp->VK->Prop):Prop:=
  ∀(pins:List (av×fY)) (s:ar) (U:St) (H:Hp) (xs:List V) (us:List ak) (Q:VK),Inv X pins U H s->Vals xs us->r xs H Q->
    aX (aV X.prog X.w) X.A (call f us) (EP X pins U Q) X.xe s
def c2I(X:Cx)(r:V->Hp->(Bool->Hp->Prop)->Prop):Prop:=
  ∀(pins:List (av×fY)) (s:ar) (U:St) (H:Hp) (x:V) (v:ak) (Q:Bool->Hp->Prop),Inv X pins U H s->RelV x v->r x H Q->
    aX (aV X.prog X.w) X.A (truthy v) (TP X pins U Q) X.xe s
def tOp(r:R2)(ta tb:TE):TE:=λU H Q=>ta U H λx H1=>tb U H1 λy H2=>r x y H2 Q
def tUn(r:V->Hp->VK->Prop)(ta:TE):TE:=λU H Q=>ta U H λx H1=>r x H1 Q
def rI(C:Int->Int->Prop)(g:Int->Int->V):R2:=λx y H Q=>∃i j,x=.int i/\y=.int j/\C i j/\Q (g i j) H
def rI0(g:Int->Int->V):R2:=λx y H Q=>∃i j,x=.int i/\y=.int j/\Q (g i j) H
def rU(g:Int->V):V->Hp->VK->Prop:=λx H Q=>∃i,x=.int i/\Q (g i) H
section
variable {X:Cx}{a b c:Expr}{ta tb tc:TE}{pos:fW}
def b8C(ha:PE X a ta)(hb:PE X b tb){pins:List (av×fY)}{s:ar}{U:St}{H:Hp}{R:V->V->Hp->Prop}(I:Inv X pins U H s)
    (h:ta U H λx H1=>tb U H1 λy H2=>R x y H2) {Q:ak->ar->Prop} {f:ak->ak->Af ak}
    (hf:∀v u s2 x y H2,Inv X pins U H2 s2->RelV x v->RelV y u->R x y H2->aX (aV X.prog X.w) X.A (f v u) Q X.xe s2) :
    aX (aV X.prog X.w) X.A (cK a X.env) (λv s₁=>aX (aV X.prog X.w) X.A (cK b X.env) (λu s₂=>aX (aV X.prog X.w) X.A (f v u) Q X.xe s₂) X.xe s₁) X.xe s:=by
  refine thn (ha pins s U H _ I h) λv s1 ⟨x,H1,I1,r1,q1⟩=>?_
  refine thn (hb pins s1 U H1 _ I1 q1) λu s2 ⟨y,H2,I2,r2,q2⟩=>?_
  exact hf v u s2 x y H2 I2 r1 r2 q2
def b7P{op:Operator}{r:R2}(ho:OpR X (gg op) r)(ha:PE X a ta)(hb:PE X b tb):PE X (.BinOp a op b pos) (tOp r ta tb):=by
  intro pins s U H Q I h;exact wpAny_BinOp (b8C ha hb I h λv u s2 x y H2 I2 rx ry q=>ho pins s2 U H2 x y v u Q I2 rx ry q)
def c0S(ho:UnR X (unaryOp op) r)(ha:PE X a ta):PE X (.UnaryOp op a pos) (tUn r ta):=by
  intro pins s U H Q I h;exact UnaryOp_ (thn (ha pins s U H _ I h) λv s1 ⟨x,H1,I1,r1,q1⟩=>ho pins s1 U H1 x v Q I1 r1 q1)
def opI{f:ak->ak->Af ak}{C:Int->Int->Prop}{g:Int->Int->Int}
    (rule:∀(i j:Int) (t u:Tok) (s:ar) (Q:ak->ar->Prop) (E:ak->ar->Prop),C i j->Q (.int (g i j) s.toks) {s with toks:=s.toks+1}->aX (aV X.prog X.w) X.A (f (.int i t) (.int j u)) Q E s) :
    OpR X f (rI C λi j=>.int (g i j)):=by
  intro pins s U H x y v u Q I rx ry h;obtain⟨i,j,rfl,rfl,hc,q⟩:=h;obtain⟨t,rfl⟩:=rx;obtain⟨t',rfl⟩:=ry;exact rule i j t t' s _ _ hc ⟨.int (g i j),H,I.tok _,⟨_,rfl⟩,q⟩
def c0T{f:ak->ak->Af ak}{g:Int->Int->Int}
    (rule:∀(i j:Int) (t u:Tok) (s:ar) (Q:ak->ar->Prop) (E:ak->ar->Prop),Q (.int (g i j) s.toks) {s with toks:=s.toks+1}->aX (aV X.prog X.w) X.A (f (.int i t) (.int j u)) Q E s) :
    OpR X f (rI0 λi j=>.int (g i j)):=by
  intro pins s U H x y v u Q I rx ry h;obtain⟨i,j,rfl,rfl,q⟩:=h;obtain⟨t,rfl⟩:=rx;obtain⟨t',rfl⟩:=ry;exact rule i j t t' s _ _ ⟨.int (g i j),H,I.tok _,⟨_,rfl⟩,q⟩
def b5G{f:ak->ak->Af ak}{g:Int->Int->Bool}
    (rule:∀(i j:Int) (t u:Tok) (s:ar) (Q:ak->ar->Prop) (E:ak->ar->Prop),Q (.bool (g i j)) s->aX (aV X.prog X.w) X.A (f (.int i t) (.int j u)) Q E s) :
    OpR X f (rI0 λi j=>.bl (g i j)):=by
  intro pins s U H x y v u Q I rx ry h;obtain⟨i,j,rfl,rfl,q⟩:=h;obtain⟨t,rfl⟩:=rx;obtain⟨t',rfl⟩:=ry;exact rule i j t t' s _ _ ⟨.bl (g i j),H,I,rfl,q⟩
def c2J(i j:Int):Prop:=0<j/\j<1073741824
def c2K(i j:Int):Prop:=0<=j/\j<=1000000/\i.natAbs<2^64
def CMul(i j:Int):Prop:=(-(2^64)<i/\i<2^64)\/(-(2^64)<j/\j<2^64)
def CMul.ok{i j:Int}(h:CMul i j):IntMulOk i j:=by
  rcases h with⟨h1,h2⟩|⟨h1,h2⟩
  · exact .of_left (intBits_le_64 h1 h2)
  · exact .of_right (intBits_le_64 h1 h2)
def b8D:OpR X (gg .Add) (rI0 λi j=>.int (i+j)):=c0T λ_ _ _ _ _ _ _ q=>add_int q
def b8E:OpR X (gg .Sub) (rI0 λi j=>.int (i-j)):=c0T λ_ _ _ _ _ _ _ q=>sub_int q
def b8F:OpR X (gg .Mult) (rI CMul λi j=>.int (i*j)):=opI λ_ _ _ _ _ _ _ hc q=>mul_int q hc.ok
def b5H:OpR X (gg .FloorDiv) (rI c2J λi j=>.int (i / j)):=opI λi j _ _ _ _ _ hc q=>by
  have h1:(0:Int)<j:=hc.1;have h2:j<1073741824:=hc.2;exact floordiv_int (by omega) (by rw[Int.fdiv_eq_ediv_of_nonneg i (by omega)];exact q) (.inl (PyProof.noPylong_small (by omega)))
def b8G:OpR X (gg .Mod) (rI (λ_ j=>0<j) λi j=>.int (i % j)):=opI λi j _ _ _ _ _ hc q=>by
  have h1:(0:Int)<j:=hc;exact mod_int' (by omega) (by rw[Int.fmod_eq_emod_of_nonneg i (by omega)];exact q)
def b8H:OpR X (gg .Pow) (rI c2K λi j=>.int (i^j.toNat)):=opI λ_ _ _ _ _ _ _ hc q=>pow_int_small hc.1 hc.2.1 hc.2.2 q
def unI{f:ak->Af ak}{g:Int->Int}
    (rule:∀(i:Int) (t:Tok) (s:ar) (Q:ak->ar->Prop) (E:ak->ar->Prop),Q (.int (g i) s.toks) {s with toks:=s.toks+1}->aX (aV X.prog X.w) X.A (f (.int i t)) Q E s) :
    UnR X f (rU λi=>.int (g i)):=by
  intro pins s U H x v Q I rx h;obtain⟨i,rfl,q⟩:=h;obtain⟨t,rfl⟩:=rx;exact rule i t s _ _ ⟨.int (g i),H,I.tok _,⟨_,rfl⟩,q⟩
def b8I:UnR X (unaryOp .USub) (rU λi=>.int (-i)):=unI λ_ _ _ _ _ q=>neg_int q
end
def scal:V->V->Bool
  |.non,.non=>yn|.non,.int _=>yn|.int _,.non=>yn|.non,.bl _=>yn|.bl _,.non=>yn|.non,.str _=>yn|.str _,.non=>yn
  |.int _,.int _=>yn|.bl _,.bl _=>yn|.str _,.str _=>yn|.byt _,.byt _=>yn
  |.int _,.str _=>yn|.str _,.int _=>yn|.bl _,.str _=>yn|.str _,.bl _=>yn
  |_,_=>yp
section
variable {X:Cx}{a b c:Expr}{ta tb tc:TE}{pos:fW}
def b8J(I:Inv X pins U H s)(q:Q (.bl k) H)(e:k=k'):EP X pins U Q (.bool k') s:=by
  subst e;exact⟨.bl k,H,I,rfl,q⟩
def c0U:OpR X (cC .Lt) (rI0 λi j=>.bl (decide (i<j))):=b5G λ_ _ _ _ _ _ _ q=>lt_int q
def c0V:OpR X (cC .LtE) (rI0 λi j=>.bl (decide (i<=j))):=b5G λ_ _ _ _ _ _ _ q=>le_int q
def c0W:OpR X (cC .Gt) (rI0 λi j=>.bl (decide (j<i))):=b5G λ_ _ _ _ _ _ _ q=>gt_int q
def c0X:OpR X (cC .GtE) (rI0 λi j=>.bl (decide (j<=i))):=b5G λ_ _ _ _ _ _ _ q=>ge_int q
def b5I:OpR X (cC .IsNot) (λx y H Q=>y=.non/\Q (.bl (!decide (x=.non))) H):=by
  intro pins s U H x y v u Q I rx ry h;obtain⟨rfl,q⟩:=h;cases ry
  refine isnot_none_gen (b8J I q ?_);cases x<;>first
    | (cases rx;rfl)
    | (obtain⟨t,rfl⟩:=rx;rfl)
def a7N(b:Expr)(h:autoParam (op≠.In) ZV._auto_1)(h2:autoParam (op≠.NotIn) ZV._auto_1):ik op b=yp:=by
  have e1:(op==CmpOp.In)=yp:=by cases op<;>first|rfl|exact absurd rfl h
  have e2:(op==CmpOp.NotIn)=yp:=by cases op<;>first|rfl|exact absurd rfl h2
  cases b<;>simp[ik,e1,e2]
def b5J{op:CmpOp}{r:R2}(ho:OpR X (cC op) r)(ha:PE X a ta)(hb:PE X b tb)(hm:ik op b=yp):PE X (.Compare a [op] [b] pos) (tOp r ta tb):=by
  intro pins s U H Q I h;exact wpAny_Compare1 (b8C ha hb I h λv u s2 x y H2 I2 rx ry q=>ho pins s2 U H2 x y v u Q I2 rx ry q) hm
def b7Q(t:TE):TT:=λU H Q=>t U H λx H'=>∃k,x=.bl k/\Q k H'
def a9s(ho:OpR X (cC op) r)(ha:PE X a ta)(hb:PE X b tb)(hm:ik op b=yp):PT X (.Compare a [op] [b] pos) (b7Q (tOp r ta tb)):=by
  intro pins s U H Q I h;refine wpAny_isTrue_Compare1 (thn (ha pins s U H _ I h) λv s1 ⟨x,H1,I1,r1,q1⟩=>thn (hb pins s1 U H1 _ I1 q1) λu s2 ⟨y,H2,I2,r2,q2⟩=>
    thn (ho pins s2 U H2 x y v u _ I2 r1 r2 q2) λc s3 ⟨z,H3,I3,r3,k,e,q3⟩=>?_) hm
  subst e;cases r3
  exact fm ⟨H3,I3,q3⟩
def b8K(r r':R2)(ta tb tc:TE):TE:=λU H Q=>ta U H λx H1=>tb U H1 λy H2=>r x y H2 λz H3=>∃k,z=.bl k/\
  (if k=yn then tc U H3 λw' H4=>r' y w' H4 Q else Q (.bl yp) H3)
def b2I(ho:OpR X (cC op) r)(pH:OpR X (cC uw) r')(ha:PE X a ta)(hb:PE X b tb)(hc:PE X c tc)
    (hm:lastMarks [op,uw] [b,c]=yp:=by with_unfolding_all rfl):PT X (.Compare a [op,uw] [b,c] pos) (b7Q (b8K r r' ta tb tc)):=by
  intro pins s U H Q I h;refine isTrue_chain (thn (ha pins s U H _ I h) λv s1 ⟨x,H1,I1,r1,q1⟩=>test_link (thn (hb pins s1 U H1 _ I1 q1) λu s2 ⟨y,H2,I2,r2,q2⟩=>
    thn (ho pins s2 U H2 x y v u _ I2 r1 r2 q2) λd s3 ⟨z,H3,I3,r3,k,e,q3⟩=>?_)) hm
  subst e;cases r3
  refine fm ?_;cases k with
  |false=>
    obtain⟨k',e',q'⟩:=q3;cases e'
    exact ite_ff ⟨H3,I3,q'⟩
  |true=>
    refine ite_tt (test_last (thn (hc pins s3 U H3 _ I3 q3) λw' s4 ⟨z',H4,I4,r4,q4⟩=>thn (pH pins s4 U H4 y z' u w' _ I4 r2 r4 q4) λd' s5 ⟨z2,H5,I5,r5,k2,e2,q5⟩=>?_));subst e2;cases r5
    exact fm ⟨H5,I5,q5⟩
def b5K(K:ag)(x:V)(H:Hp)(k:Bool):Prop:=
  match x with
  |.non=>k=yp
  |.bl b=>k=b
  |.int i=>k=(i !=0)
  |.str y=>y.length<=aZ/\k=((y.length:Int)!=0)
  |.byt y=>y.size<=aZ/\k=((y.size:Int)!=0)
  |.ref p=>(∃xs,SqL K H p xs/\k=!xs.isEmpty)\/(∃xs,SqT K H p xs/\k=!xs.isEmpty)\/∃kvs,H p=cz (.dK kvs)/\k=!kvs.isEmpty
  |_=>False
def a7O{κ:Type}{kvs:List (κ×V)}{vs:List (κ×ak)}(r:KV kvs vs):(!vs.isEmpty)=!kvs.isEmpty:=by
  cases r<;>rfl
def a2R{xs:List V}{its:List ak}(r:Vals xs its):(!its.toArray.isEmpty)=!xs.isEmpty:=by
  cases r<;>simp
def a1q:(aZ:Nat)<2^63:=by rw[cX];decide
def b2J:c2I X (λx H Q=>∃k,b5K X.K x H k/\Q k H):=by
  intro pins s U H x v Q I rx h;obtain⟨k,e,q⟩:=h;have hl:=a1q;have hs:aZ=16777216:=cX;cases x with
  |non=>
    cases rx
    have e':k=yp:=e;subst e';exact truthy_none ⟨H,I,q⟩
  |bl b=>
    cases rx
    have e':k=b:=e;subst e';exact fm ⟨H,I,q⟩
  |int i=>
    obtain⟨t,rfl⟩:=rx;have e':k=(i !=0):=e;subst e';exact PySem.P.truthy_int ⟨H,I,q⟩
  |str y=>
    obtain⟨t,rfl⟩:=rx;obtain⟨hy,e'⟩:y.length<=aZ/\k=((y.length:Int)!=0):=e;subst e';exact PySem.P.truthy_str (by omega) ⟨H,I.tok _,q⟩
  |byt y=>
    obtain⟨t,rfl⟩:=rx;obtain⟨hy,e'⟩:y.size<=aZ/\k=((y.size:Int)!=0):=e;subst e';exact PySem.W.truthy_bytes (by omega) ⟨H,I.tok _,q⟩
  |ref p=>
    cases rx
    have e':(∃xs,SqL X.K H p xs/\k=!xs.isEmpty)\/(∃xs,SqT X.K H p xs/\k=!xs.isEmpty)\/∃kvs,H p=cz (.dK kvs)/\k=!kvs.isEmpty:=e;rcases e' with⟨xs,hx,e'⟩|⟨xs,hx,e'⟩|⟨kvs,hx,e'⟩
    · subst e'
      obtain⟨its,r,pl,hz⟩:=I.list hx;have hlen:=r.length;exact wpAny_truthy_list pl.isList (by simp only[be];omega) ⟨H,I.tok _,by rw[a2R r];exact q⟩
    · subst e'
      obtain⟨its,r,pl,hz⟩:=I.tuple hx;have hlen:=r.length;exact truthy_tuple pl (by simp only[be];omega) ⟨H,I.tok _,by rw[a2R r];exact q⟩
    · subst e'
      obtain⟨hz,hS,vs,r,m⟩:kvs.length<=aZ/\(p==dr)=yp/\∃vs,KV kvs vs/\s.heap.DictOf (a5n X.prog X.w) p vs:=I.hok p _ hx;have hlen:kvs.length=vs.length:=gF r;exact wpAny_truthy_dict hS m (by omega) ⟨H,I.tok _,by rw[a7O r];exact q⟩
  |_=>exact (show False from e).elim
def b2K(ha:PE X a ta)(he:∀whole,CJ a X.env whole=(do let v <-whole;Cn a.pos;oq [v] (truthy v))) :
    PT X a (λU H Q=>ta U H λx H'=>∃k,b5K X.K x H' k/\Q k H'):=by
  intro pins s U H Q I h;exact isTrue_plain (thn (ha pins s U H _ I h) λv s1 ⟨x,H1,I1,r1,q1⟩=>b2J pins s1 U H1 x v Q I1 r1 q1) (he _)
def vals1(r:Vals [x] us):∃u,us=[u]/\RelV x u:=by
  cases r with
  |cons r1 r2=>cases r2;exact⟨_,rfl,r1⟩
def vals2(r:Vals [x,y] us):∃u w',us=[u,w']/\RelV x u/\RelV y w':=by
  cases r with
  |cons r1 r2=>
    cases r2 with
    |cons r3 r4=>cases r4;exact⟨_,_,rfl,r1,r3⟩
def b0P(hc:X.calm=yn):CallR X (.builtin "max") (λxs H Q=>∃i j,xs=[.int i,.int j]/\Q (.int (if j>i then j else i)) H):=by
  intro pins s U H xs us Q I r h;obtain⟨i,j,rfl,q⟩:=h;obtain⟨u,w',rfl,⟨t,rfl⟩,⟨t',rfl⟩⟩:=vals2 r;refine max_two_ints (I.ok.hd hc) λh' tk k=>⟨_,H,I.kept k,?_,q⟩
  by_cases hj:j>i
  · rw[aB hj,aB hj];exact⟨_,rfl⟩
  · rw[aJ hj,aJ hj];exact⟨_,rfl⟩
def b0Q(hc:X.calm=yn):CallR X (.builtin "min") (λxs H Q=>∃i j,xs=[.int i,.int j]/\Q (.int (if j<i then j else i)) H):=by
  intro pins s U H xs us Q I r h;obtain⟨i,j,rfl,q⟩:=h;obtain⟨u,w',rfl,⟨t,rfl⟩,⟨t',rfl⟩⟩:=vals2 r;refine min_two_ints (I.ok.hd hc) λh' tk k=>⟨_,H,I.kept k,?_,q⟩
  by_cases hj:j<i
  · rw[aB hj,aB hj];exact⟨_,rfl⟩
  · rw[aJ hj,aJ hj];exact⟨_,rfl⟩
end
structure ObjM (h:cS) (x dx C:av) (mA:bE->Option ak):Prop where
  obj:h.get? x=cz (pM C dx)
  ns:h.Ns1 dx mA
  ne:dx≠x
def b0R{h:cS}(n:h.Ns1 dx mA):∃od,h.get? dx=cz od/\∀name,qN name od=cz (mA name):=by
  obtain⟨o,es,ep,ho,hd,hk,_,hm⟩:=n;refine⟨o,ho,λname=>?_⟩;have e:=hm name;unfold nsFind findBy at e;rw[<-Array.find?_toList]at e;unfold qN;rw[hd]
  dsimp only
  split
  · rename_i y q
    rw[q]at e;exact dE cz e
  · rename_i q
    rw[q]at e;have a:es.toList.any (·.refKey)=yp:=by
      rw[eA];intro y hy;obtain⟨z,t,oH⟩:=hk y (je.mp hy);simp[hJ.refKey,oH]
    have a':¬ es.toList.any (·.refKey)=yn:=by rw[a];exact bU
    rw[aJ a'];exact dE cz e
def ObjM.look(I:ObjM h x dx C mA):∃od,PySem.W.InstAt h x (pM C dx) C (cz od)/\∀name,qN name od=cz (mA name):=
  let⟨od,ho,hl⟩:=b0R I.ns
  ⟨od,⟨I.obj,rfl,rfl,ho⟩,hl⟩
section
variable {P:bB}{w:bZ}{H H':Hp}{h h':cS}{a C dx:av}{fs jM:List (bE×V)}
def b5L(hok:HOk P w H h)(e:H a=cz (.ins C dx fs)):∃mA,ObjM h a dx C mA/\(∀f,b8l (fs.lookup f) (mA f))/\PySem.Within mA (fs.map (·.1))/\fs.length<=1000/\H dx=cz (.own a):=by
  obtain⟨d,z,ne,ob,mA,n,r,q⟩:=(show ObjOk P w H h a (.ins C dx fs) from hok a _ e);exact⟨mA,⟨ob,n,ne⟩,r,q,z,d⟩
end
structure Cls (K:ag) (C:av):Prop where
  pg:Fe K C bE.empty=yn
  hd:PySem.W.hasDictIn K C=yn
  po:PySem.W.plainOver K C=yn
  sa:jT K (.ref C) "__setattr__"=cz (cz (.builtin "object.__setattr__"))
def Cls.get{K:ag}{C:av}(c:Cls K C)(f:bE):Fe K C f=yn:=c.pg
structure Con (K:ag) (C:av) (f:bE) (v:V) (u:ak):Prop where
  at_:jT K (.ref C) f=cz (cz u)
  rel:RelV v u
  get:BS K u "__get__"=cz xn
  cp:PySem.W.copiedNames.contains f=yp
structure Meth (K:ag) (C:av) (m:bE) (f:av):Prop where
  at_:jT K (.ref C) m=cz (cz (.ref f))
  fn:PySem.W.isFn K (.ref f)=yn
  kp:fU K (.ref f)=yn
section
variable {X:Cx}{pins:List (av×fY)}{U:St}{H:Hp}{s:ar}{A:bS}{E:ak->ar->Prop}{Q:ak->ar->Prop}{c:ak}{b:Bool}
inductive TyOf (K:ag) (H:Hp):V->ak->Prop where
  |non:TyOf K H .non (.type "NoneType")
  |bl (x:Bool):TyOf K H (.bl x) (.type "bool")
  |int (i:Int):TyOf K H (.int i) (.type "int")
  |str (x:bE):TyOf K H (.str x) (.type "str")
  |flt (x:UInt64):TyOf K H (.flt x) (.type "float")
  |lst {a:av} {xs:List V} (e:H a=cz (.lst xs)):TyOf K H (.ref a) (.type "list")
  |frz {a:av} {o:fY} {xs:List V} (e:H a=cz (.frz o (.lst xs))):TyOf K H (.ref a) (.type "list")
  |tup {a:av} {xs:List V} (e:H a=cz (.tup xs)):TyOf K H (.ref a) (.type "tuple")
  |dK {a:av} {kvs:List (Key×V)} (e:H a=cz (.dK kvs)):TyOf K H (.ref a) (.type "dict")
  |dT {a:av} {kvs:List (List Key×V)} (e:H a=cz (.dT kvs)):TyOf K H (.ref a) (.type "dict")
  |ins {a C dx:av} {fs:List (bE×V)} (e:H a=cz (.ins C dx fs)) (cl:Cls K C) (ha:jT K (.ref C) "__class__"=cz (cz (.builtin "object.__class__")))
      (hn:BS K (.builtin "object.__class__") "__get__"=cz (cz (.builtin "getset_descriptor.__get__"))) (AV:PySem.W.takesIn K (.builtin "object.__class__")=cz yn)
      (hm:PySem.W.mroIn K C (.type "object")=cz yn):TyOf K H (.ref a) (.ref C)
def b0S(I:Inv X pins U H s)(rx:RelV x u)(ty:TyOf X.K H x t)(e:eQ X.K t c=cz b)(h:∀tk,Q (.bool b) {s with toks:=tk}) :
    aX (aV X.prog X.w) A (call (.builtin "isinstance") [u,c]) Q E s:=by
  cases ty with
  |non=>cases (show u=bw from rx);exact df PySem.W.kitx_none I.kIn jS e (λz=>nomatch z) h
  |bl y=>cases (show u=mE y from rx);exact df PySem.W.kitx_bool I.kIn jS e (λz=>nomatch z) h
  |int i=>obtain⟨t,q⟩:=(show ∃t,u=g_ i t from rx);cases q;exact df PySem.W.kitx_int I.kIn jS e (λz=>nomatch z) h
  |str y=>obtain⟨t,q⟩:=(show ∃t,u=rY y t from rx);cases q;exact df PySem.W.kitx_str I.kIn jS e (λz=>nomatch z) h
  |flt y=>obtain⟨t,q⟩:=(show ∃t,u=ak.float y t from rx);cases q;exact df PySem.W.kitx_float I.kIn jS e (λz=>nomatch z) h
  |@lst a xs ea=>
    cases (show u=bM a from rx)
    obtain⟨_,_,n,_,h1⟩:=(show ObjOk X.prog X.w H s.heap a (.lst xs) from I.hok a _ ea);exact df nV I.kIn ⟨_,h1,rfl⟩ e (λz=>nomatch z) h
  |@frz a ob xs ea=>
    cases (show u=bM a from rx)
    obtain⟨_,_,_,n,_,h1⟩:=(show ObjOk X.prog X.w H s.heap a (.frz ob (.lst xs)) from I.hok a _ ea);exact df nV I.kIn ⟨_,h1,rfl⟩ e (λz=>nomatch z) h
  |@tup a xs ea=>
    cases (show u=bM a from rx)
    obtain⟨_,_,_,p⟩:=(show ObjOk X.prog X.w H s.heap a (.tup xs) from I.hok a _ ea);obtain⟨o,h1,h2,_⟩:=p;exact df Ai I.kIn ⟨o,h1,h2⟩ e (λz=>nomatch z) h
  |@dK a kvs ea=>
    cases (show u=bM a from rx)
    obtain⟨_,_,vs,_,p⟩:=(show ObjOk X.prog X.w H s.heap a (.dK kvs) from I.hok a _ ea);obtain⟨o,es,ep,h1,h2,_⟩:=p;exact df nW I.kIn ⟨o,h1,h2.1⟩ e (λz=>nomatch z) h
  |@dT a kvs ea=>
    cases (show u=bM a from rx)
    obtain⟨_,_,xs,_,o,es,ep,h1,h2,_⟩:=(show ObjOk X.prog X.w H s.heap a (.dT kvs) from I.hok a _ ea);exact df nW I.kIn ⟨o,h1,h2.1⟩ e (λz=>nomatch z) h
  |@ins a C dx fs ea cl ha hn AV hm=>
    cases (show u=bM a from rx)
    obtain⟨mA,O,_⟩:=b5L I.hok ea;obtain⟨od,J,_⟩:=O.look;exact df (PySem.W.kitx_own (cl.get _) cl.hd ha hn AV hm) I.kIn J e (λz=>nomatch z) h
end
structure Room (k:Nat) (A:bS):Prop where
  hd:A.handled=xn
  dp:A.depth+3*k+5<recursionLimit
  un:A.units+16*k+200<dQ
def Room.mono(r:Room k A)(h:j<=k):Room j A:=⟨r.hd,by have:=r.dp;omega,by have:=r.un;omega⟩
theorem Room.deeper(r:Room (k+1) A)(env:oQ):Room k (A.deeper env):=
  ⟨r.hd,by have:=r.dp;show A.depth+1+3*k+5<_;omega,by have:=r.un;show A.units+3+16*k+200<_;omega⟩
theorem Room.in1(r:Room (k+1) A):Room k A.in1:=
  ⟨r.hd,by have:=r.dp;show A.depth+3*k+5<_;omega,by have:=r.un;show A.units+1+16*k+200<_;omega⟩
theorem Room.depth(r:Room k A):A.depth<recursionLimit:=by have:=r.dp;omega
theorem Room.units(r:Room k A):A.units+64<dQ:=by have:=r.un;omega
def b2L:TA:=λ_ H Q=>Q [] H
def a6q(ta:TE)(tr:TA):TA:=λU H Q=>ta U H λx H1=>tr U H1 λxs H2=>Q (x::xs) H2
section
variable {X:Cx}{e:Expr}{es:List Expr}{te:TE}{t:TA}{pos:fW}
def p9:PA X [] b2L:=λ_ _ _ _ H Q I h=>Calls.spliced_nil ⟨[],H,I,.nil,h⟩
def l0(ha:PE X e te)(hr:PA X es t)(hs:au (e::es) X.env=(yp,cK e X.env)::au es X.env:=by rfl):PA X (e::es) (a6q te t):=by
  intro pos pins s U H Q I h;rw[hs];show aX _ _ (spliced ((yp,cK e X.env)::cM pos (au es X.env))) _ _ s;refine Calls.spliced_cons (thn (ha pins s U H _ I h) λu s1 ⟨x,H1,I1,r1,q1⟩=>?_);exact thn (hr pos pins s1 U H1 _ I1 q1) λus s2 ⟨xs,H2,I2,r2,q2⟩=>⟨x::xs,H2,I2,.cons r1 r2,q2⟩
def c2L(t:TA):TE:=λU H Q=>t U H λxs H1=>xs.length<=aZ/\∀p,H1 p=xn->Q (.ref p) (upd H1 p (.tup xs))
def c2M(t:TA):TE:=λU H Q=>t U H λxs H1=>xs.length<=aZ/\∀p,H1 p=xn->Q (.ref p) (upd H1 p (.lst xs))
def a5s{x1}(h:PA X es t):PE X (.Tuple es x1 pos) (c2L t):=by
  intro pins s U H Q I hq;refine wpAny_Tuple_spliced (thn (h pos pins s U H _ I hq) λus s1 ⟨xs,H1,I1,r,z,q⟩=>⟨by rw[<-r.length];exact z,?_⟩);have hf:H1 s1.heap.objs.size=xn:=I1.hok.fresh (ay _);refine⟨.ref s1.heap.objs.size,upd H1 s1.heap.objs.size (.tup xs),I1.laid (t':=s1.toks) (λb u e=>aG _ e) (ay _) ?_,rfl,q _ hf⟩;exact⟨z,us,r,⟨_,bh _ rfl,rfl,_,rfl⟩⟩
def b8L(h:PA X es t):PE X (.List es pos) (c2M t):=by
  intro pins s U H Q I hq;refine wpAny_List_spliced (thn (h pos pins s U H _ I hq) λus s1 ⟨xs,H1,I1,r,z,q⟩=>⟨by rw[<-r.length];exact z,?_⟩);have hf:H1 s1.heap.objs.size=xn:=I1.hok.fresh (ay _);refine⟨.ref s1.heap.objs.size,upd H1 s1.heap.objs.size (.lst xs),I1.laid (t':=s1.toks) (λb u e=>aG _ e) (ay _) ?_,rfl,q _ hf⟩;exact⟨z,us,0,r,bh _ rfl⟩
end
abbrev Sp:=List V->Hp->VK->XK->Prop
abbrev CXT:=List oQ->Hp->ar->XK->ak->ar->Prop
structure Env0 (P:bB) (w:bZ) (K:ag) (mg:bE->Option ak) (base:cS) (A:bS) (outer:List oQ) (s:ar) (H:Hp):Prop where
  frames:A.frames=cz outer
  mod:Mod K mg base
  bs:∀b o,base.get? b=cz o->s.heap.get? b=cz o/\H b=xn
  bsz:base.objs.size<=s.heap.objs.size
  funs:s.heap.FunFrames base outer
  frf:∀b∈frs outer,H b=xn
  hok:HOk P w H s.heap
  bare:pD s.gens
  tabs:TabsIn K H
def CE(outer:List oQ)(P:bB)(w:bZ)(H:Hp)(s:ar)(Q:VK)(u:ak)(s':ar):Prop:=
  ∃v H',s'.os=s.os/\pD s'.gens/\Un (frs outer) [] H H' s.heap s'.heap/\HOk P w H' s'.heap/\RelV v u/\Q v H'
def CR(CX:CXT)(outer:List oQ)(P:bB)(w:bZ)(H:Hp)(s:ar)(Q:VK)(E:XK)(r:Result)(s':ar):Prop:=
  match r with
  |.ok (.ret u)=>CE outer P w H s Q u s'
  |.ok _=>False
  |.error e=>CX outer H s E e s'
structure FnOk (P:bB) (w:bZ) (K:ag) (mg:bE->Option ak) (base:cS) (CX:CXT) (k:Nat) (f:av) (fd:dS) (ps:List bE) (sp:Sp):Prop where
  len:∀vs H Q E,sp vs H Q E->vs.length=ps.length
  run:∀(A:bS) (outer:List oQ) (s:ar) (H:Hp) (args:Args) (us:List ak) (vs:List V) (Q:VK) (E:XK),Room k A->Env0 P w K mg base A outer s H->ox s fd args (ps.zip us)->Vals vs us->sp vs H Q E->
    gX (aV P w) A (.call (.ref f) args) (CR CX outer P w H s Q E) s
theorem FnOk.mono{P:bB}{w:bZ}{K:ag}{mg:bE->Option ak}{base:cS}{CX:CXT}{j k:Nat}{f:av}{fd:dS}{ps:List bE}{sp:Sp}(F:FnOk P w K mg base CX j f fd ps sp)(h:j<=k) :
    FnOk P w K mg base CX k f fd ps sp:=⟨F.len,λA outer s H args us vs Q E hr=>F.run A outer s H args us vs Q E (hr.mono h)⟩
theorem Env0.in1{P:bB}{w:bZ}{K:ag}{mg:bE->Option ak}{base:cS}{A:bS}{outer:List oQ}{s:ar}{H:Hp}(e:Env0 P w K mg base A outer s H) :
    Env0 P w K mg base A.in1 outer s H:=⟨e.frames,e.mod,e.bs,e.bsz,e.funs,e.frf,e.hok,e.bare,e.tabs⟩
section
variable {X:Cx}{pins:List (av×fY)}{U:St}{H:Hp}{s s':ar}
def Inv.env0(I:Inv X pins U H s):Env0 X.prog X.w X.K X.mg X.base X.A X.stack s H:=
  ⟨I.ok.frames,I.ok.mod,I.bs,cF I.ok.bsz I.sz,I.stack,I.stkFree,I.hok,I.bare,I.tabs⟩
def Inv.after(I:Inv X pins U H s)(h:CE X.stack X.prog X.w H s Q u s'):EP X pins U Q u s':=by
  obtain⟨v,H',os,bare,un,hok,r,q⟩:=h;obtain⟨hh,g,d,t,Cw⟩:=s';obtain rfl:Cw=s.os:=os;exact⟨v,H',I.call (h':=hh) (g':=g) (d':=d) (t':=t) (ch:=[]) un hok bare (λb z=>absurd z (by simp)),r,q⟩
end
def b7R(sp:Sp)(sM:List V)(E:XK)(t:TA):TE:=λU H Q=>t U H λvs H1=>sp (vs++sM) H1 Q E
def Binds(K:ag)(fd:dS)(ps:List bE)(ds:List ak):Prop:=
  ∀(s:ar) (us:List ak),K.In s.heap->(us++ds).length=ps.length->ox s fd ⟨us,[]⟩ (ps.zip (us++ds))
def Binds.all{K:ag}{fd:dS}{ps:List bE}(h:∀us:List ak,us.length=ps.length->qM fd ⟨us,[]⟩=pure (ps.zip us)):Binds K fd ps []:=λs us _ hl=>by
  rw[bb]at hl ⊢;exact .of_eq (h us hl)
def a7P(CX:CXT)(X:Cx)(E:XK):Prop:=∀(pins:List (av×fY)) (U:St) (H:Hp) (s:ar) (e:ak) (s':ar),Inv X pins U H s->CX X.stack H s E e s'->X.xe e s'
section
variable {X:Cx}{CX:CXT}{k:Nat}{f C:av}{fd:dS}{ps:List bE}{sp:Sp}{sM:List V}{ds:List ak}{E:XK}{x m:bE}{p pos apos:fW}{e o:Expr}{es:List Expr}{ta:TE}{t:TA}
def b8M(F:FnOk X.prog X.w X.K X.mg X.base CX k f fd ps sp)(hr:Room k X.A)(hb:Binds X.K fd ps ds)(hd:Vals sM ds)(hx:a7P CX X E)
    (I:Inv X pins U H s) (r:Vals vs us) (h:sp (vs++sM) H Q E):aX (aV X.prog X.w) X.A (call (.ref f) us) (EP X pins U Q) X.xe s:=by
  have r2:Vals (vs++sM) (us++ds):=r.append hd;have hl:(us++ds).length=ps.length:=by rw[<-r2.length];exact F.len _ _ _ _ h
  refine uZ (iX (F.run X.A X.stack s H ⟨us,[]⟩ (us++ds) (vs++sM) Q E hr I.env0 (hb s us I.kIn hl) r2 h) λr s' hq=>?_);cases r with
  |error e=>exact hx pins U H s e s' I hq
  |ok fl=>
    cases fl with
    |ret u=>exact I.after hq
    |next=>exact dC hq
    |brk=>exact dC hq
    |cont=>exact dC hq
def b5M(F:FnOk X.prog X.w X.K X.mg X.base CX k f fd ps sp)(hr:Room k X.A)(hg:Gl X x)(hm:X.mg x=cz (.ref f))(hk:fU X.K (.ref f)=yn)(hb:Binds X.K fd ps ds)(hd:Vals sM ds)(hx:a7P CX X E)
    (ha:PA X (e::es) t) (mB:autoParam ((x==("__debug__":bE))=yp) ZV._auto_1) (he:au (e::es) X.env=(yp,cK e X.env)::au es X.env:=by rfl) (gT:(cM pos (au es X.env)).any (·.1)=yp:=by rfl) :
    PE X (.Call (.Name x p) (e::es) [] pos) (b7R sp sM E t):=by
  intro pins s U H Q I h;refine gx (a5q I hg hm ?_ mB);refine Aj (h₀:=X.base) I.ok.mod.kin hk (thn (ha pos pins s U H _ I h) λus s1 ⟨vs,H1,I1,r,q⟩=>⟨I1.kIn,?_⟩) he gT;exact b8M F hr hb hd hx I1 r q
structure Mk (K:ag) (C f:av):Prop where
  makes:PySem.W.makesIn K C=yn
  init:jT K (.ref C) "__init__"=cz (cz (.ref f))
  fn:PySem.W.isFn K (.ref f)=yn
  kp:fU K (.ref C)=yn
end
def PK(X:Cx)(vm:List eO)(t:TA):Prop:=
  ∀(pos:fW) (pins:List (av×fY)) (s:ar) (U:St) (H:Hp) (Q:List V->Hp->Prop),Inv X pins U H s->t U H Q->aX (aV X.prog X.w) X.A (evalAll ((eX pos (dD vm X.env)).map (·.2))) (AP X pins U Q) X.xe s
section
variable {X:Cx}{CX:CXT}{k:Nat}{f C:av}{fd:dS}{ps ks:List bE}{sp:Sp}{E:XK}{x m:bE}{p pos apos lE:fW}{e o:Expr}{es:List Expr}{vm:List eO}{te ta:TE}{t tk:TA}{nm:Option bE}
def b8N:PK X [] b2L:=λ_ _ _ _ H Q I h=>wpAny_evalAll_nil ⟨[],H,I,.nil,h⟩
def b5N(ha:PE X e te)(hr:PK X vm t):PK X (⟨nm,e,lE⟩::vm) (a6q te t):=by
  intro pos pins s U H Q I h;show aX _ _ (evalAll ((do let v <-cK e X.env;Cn pos;pure v)::(eX pos (dD vm X.env)).map (·.2))) _ _ s;refine wpAny_evalAll_cons (ae (thn (ha pins s U H _ I h) λu s1 ⟨x,H1,I1,r1,q1⟩=>ae (lC (aE ?_))));exact thn (hr pos pins s1 U H1 _ I1 q1) λus s2 ⟨xs,H2,I2,r2,q2⟩=>⟨x::xs,H2,I2,.cons r1 r2,q2⟩
structure KBinds (K:ag) (fd:dS) (ps ks:List bE) (g:List ak->List ak->List ak) (gV:List V->List V->List V):Prop where
  to:∀(s:ar) (us ws:List ak),K.In s.heap->(g us ws).length=ps.length->ox s fd ⟨us,ks.zip ws⟩ (ps.zip (g us ws))
  rel:∀{vs:List V} {us:List ak} {zs:List V} {ws:List ak},Vals vs us->Vals zs ws->Vals (gV vs zs) (g us ws)
variable {g:List ak->List ak->List ak}{gV:List V->List V->List V}
end
structure FnScope (N P:List bE) (sc:gC):Prop where
  kind:sc.kind=.function
  co:sc.isCoroutine=yp
  gen:sc.isGenerator=yp
  nd:N.Nodup
  pre:N.take P.length=P
  par:∀x∈P,sc.names.lookup x=cz .local\/sc.names.lookup x=cz .cell
  nofree:∀y∈sc.names,y.2≠.free
theorem a4B{kindOf:bE->Option i_}{x:bE}:∀{binds:List (bE×ak)} {m:bE->Option ak},(∀v,(x,v)∉binds)->BO kindOf binds m x=m x
  |[],_,_=>rfl
  | (n,v)::r,m,h=>by
    unfold BO;rw[a4B λw hw=>h w (aw _ hw)]
    split
    · have:x≠n:=by rintro rfl;exact h v aL
      simp[this]
    · rfl
theorem a4C{kindOf:bE->Option i_}{x:bE}:∀{binds:List (bE×ak)} {m:bE->Option ak},(∀v,(x,v)∉binds)->BP kindOf binds m x=m x
  |[],_,_=>rfl
  | (n,v)::r,m,h=>by
    unfold BP;rw[a4C λw hw=>h w (aw _ hw)]
    split
    · rfl
    · have:x≠n:=by rintro rfl;exact h v aL
      simp[this]
theorem a4D{kindOf:bE->Option i_}{x:bE}{v:ak}:∀{P:List bE} {vs:List ak} {i:Nat} {m:bE->Option ak},P.Nodup->P[i]?=cz x->vs[i]?=cz v->kindOf x=cz .local->
    BO kindOf (P.zip vs) m x=cz v
  |[],_,_,_,_,h,_,_=>by simp at h
  |_::_,[],_,_,_,_,h,_=>by simp at h
  |p::P,w::vs,0,m,nd,h1,h2,hk=>by
    simp at h1 h2;subst h1;subst h2
    show BO kindOf ((p,w)::P.zip vs) m p=_;unfold BO;rw[a4B λv hv=>(bY.mp nd).1 (jt hv).1,aB hk];simp
  |p::P,w::vs,i+1,m,nd,h1,h2,hk=>by
    show BO kindOf ((p,w)::P.zip vs) m x=_;unfold BO;exact a4D (i:=i) (bY.mp nd).2 (by simpa using h1) (by simpa using h2) hk
theorem a4E{kindOf:bE->Option i_}{x:bE}{v:ak}:∀{P:List bE} {vs:List ak} {i:Nat} {m:bE->Option ak},P.Nodup->P[i]?=cz x->vs[i]?=cz v->kindOf x≠cz .local->
    BP kindOf (P.zip vs) m x=cz v
  |[],_,_,_,_,h,_,_=>by simp at h
  |_::_,[],_,_,_,_,h,_=>by simp at h
  |p::P,w::vs,0,m,nd,h1,h2,hk=>by
    simp at h1 h2;subst h1;subst h2
    show BP kindOf ((p,w)::P.zip vs) m p=_;unfold BP;rw[a4C λv hv=>(bY.mp nd).1 (jt hv).1,aJ hk];simp
  |p::P,w::vs,i+1,m,nd,h1,h2,hk=>by
    show BP kindOf ((p,w)::P.zip vs) m x=_;unfold BP;exact a4E (i:=i) (bY.mp nd).2 (by simpa using h1) (by simpa using h2) hk
def start(N:List bE)(vs:List V):St:=vs.map cz++aT (N.length-vs.length) xn
def a0M(CX:CXT)(P:bB)(w:bZ)(K:ag)(mg:bE->Option ak)(base:cS)(N:List bE)(qual:bE)(scope:gC)(f:av)(cd:ak)(A:bS)(outer:List oQ)(s:ar)(H:Hp)(E:XK):Cx where
  prog:=P
  w:=w
  K:=K
  mg:=mg
  base:=base
  A:=A.deeper (jv qual scope s.heap.objs.size f cd)
  N:=N
  s₀:=s
  H₀:=H
  env:=jv qual scope s.heap.objs.size f cd
  outer:=outer
  stack:=jv qual scope s.heap.objs.size f cd::outer
  ex:=[]
  calm:=yn
  fn:=λ_=>yn
  pn:=[]
  xe:=λe s'=>aX (aV P w) (A.deeper (jv qual scope s.heap.objs.size f cd)) (leaving (jv qual scope s.heap.objs.size f cd) e) (λ_ va=>CX outer H s E e va) (λe' va=>CX outer H s E e' va) s'
def a6r{sc:gC}(h:sc.names.lookup x=cz .cell):∃c,(cellsFrom n sc.names []).lookup x=cz c:=by
  have q:=ue sc.names n [] (.inl h);exact kC.mp q
def b0T{CX:CXT}{P:bB}{w:bZ}{K:ag}{mg:bE->Option ak}{base:cS}{N ps:List bE}{qual:bE}{scope:gC}{f:av}{cd:ak}{A:bS}{outer:List oQ}{s s1:ar}{H:Hp}{E:XK}{us:List ak}{vs:List V}
    (S:FnScope N ps scope) (hd:A.handled=xn) (e0:Env0 P w K mg base A outer s H) (hl:vs.length=ps.length) (r:Vals vs us)
    (x:InCallC s s.heap.objs.size (BO (jv qual scope s.heap.objs.size f cd).kindOf (ps.zip us) λ_=>xn) (cellsFrom (s.heap.objs.size+1) scope.names []) (BP (jv qual scope s.heap.objs.size f cd).kindOf (ps.zip us) λ_=>xn) s1) :
    Inv (a0M CX P w K mg base N qual scope f cd A outer s H E) [] (start N vs) H s1:=by
  have gT:ps.length<=N.length:=by have:=dE d_ S.pre;rw[dZ]at this;omega
  obtain⟨h1,tk,rfl,hk⟩:=x.done;have sY:∀b:av,b∉(a0M CX P w K mg base N qual scope f cd A outer s H E).ex:=λb z=>absurd (show b∈([]:List av) from z) (by simp)
  refine⟨⟨e0.mod,S.kind,rfl,rfl,ay _,λy z c h1 h2=>?_,λy hy=>?_,λy c _ h=>?_,λ_=>hd,bS.frames_deeper e0.frames,.inr ⟨rfl,rfl⟩,λb z=>absurd z (sY b),e0.bs,e0.bsz,λb _ _=>sY b,λb z=>absurd z (sY b),e0.funs,e0.frf,e0.tabs⟩,
    rfl,e0.bare,Un.kept hk,⟨_,x.toInCall.ns,λi y v h1 h2 h3=>?_⟩,λy c h=>⟨_,x.cell y c h⟩,e0.hok.fresh (ay _),λy c h=>?_,λp hp=>absurd (show p∈([]:List (av×fY)) from hp) (by simp),e0.hok.kept hk,?_⟩
  · exact name_of_addr x.apart (cA h1) (cA h2)
  · have hy:scope.names.lookup y=cz .cell\/scope.names.lookup y=cz .free:=hy
    rcases hy with hy|hy
    · exact a6r hy
    · exact absurd rfl (S.nofree _ (cA hy))
  · exact eN (x.above y c (cA h))
  · have hi:i<vs.length:=by
      unfold start at h2;by_cases hi:i<vs.length
      · exact hi
      · rw[cu (by simpa using hi)]at h2
        rw[sR]at h2
        split at h2<;>cases h2
    have ha:vs[i]?=cz v:=by
      unfold start at h2;rw[dw (by simpa using hi),aQ]at h2;cases e:vs[i]? with
      |none=>rw[e]at h2;cases h2
      |some a=>rw[e]at h2;cases h2;rfl
    obtain⟨u,hu,rv⟩:=r.get ha;have hp:ps[i]?=cz y:=by
      rw[<-S.pre,kF (by omega)];exact h1
    have AF:ps.Nodup:=by rw[<-S.pre];exact S.nd.sublist (List.take_sublist _ _)
    refine⟨u,rv,?_⟩;rcases S.par y (bt hp) with k|k
    · exact .inl ⟨k,a4D AF hp hu k⟩
    · obtain⟨c,e⟩:=a6r (n:=s.heap.objs.size+1) k
      refine .inr ⟨.inl k,c,e,?_⟩;have q:=x.cell y c e;rw[a4E AF hp hu (by show scope.names.lookup y≠_;rw[k];decide)]at q;exact q
  · exact e0.hok.fresh (eN (x.above y c (cA h)))
  · unfold start
    show _=N.length;rw[aA,ai,gn];omega
def b7S{CX:CXT}{P:bB}{w:bZ}{K:ag}{mg:bE->Option ak}{base:cS}{k:Nat}{f:av}{name qual:bE}{params:oy}{body:List iE}{scope:gC}{dV kV doc pm gz ct oc:ak}{an od:Option av}
    {pF:Array (Option ak)} {N ps:List bE} {sp:Sp} (lk:K.lookup f=cz ⟨oc,od,.func (fX name qual params body scope dV kV doc pm an gz ct),pF⟩) (iC:lZ K gz qual=yn) (S:FnScope N ps scope)
    (len:∀vs H Q E,sp vs H Q E->vs.length=ps.length)
    (qH:∀(A:bS) (outer:List oQ) (s:ar) (H:Hp) (vs:List V) (Q:VK) (E:XK),Room k (A.deeper (jv qual scope s.heap.objs.size f gz))->sp vs H Q E->
      ∃t,PSs (a0M CX P w K mg base N qual scope f gz A outer s H E) body t/\t {nx:=λ_ H'=>Q .non H',rt:=Q} (start N vs) H) :
    FnOk P w K mg base CX (k+1) f (fX name qual params body scope dV kV doc pm an gz ct) ps sp:=by
  refine⟨len,λA outer s H args us vs Q E hr e0 hb r qu=>?_⟩;have hl:=len _ _ _ _ qu;have KX:K.In s.heap:=e0.mod.kin.keeps λb o e=>(e0.bs b o e).1
  have lim:s.heap.NoLimit:=e0.mod.nolimit.keeps λb o e=>(e0.bs b o e).1
  have vU:∀y∈ps.zip us,scope.names.lookup y.1=cz .local\/(scope.names.lookup y.1=cz .cell/\((cellsFrom (s.heap.objs.size+1) scope.names []).lookup y.1).isSome=yn):=λ⟨n,v⟩ hy=>by
    rcases S.par n (jt hy).1 with q|q
    · exact .inl q
    · exact .inr ⟨q,ue _ _ _ (.inl q)⟩
  refine codeAny_call_function hr.depth (KX _ _ lk) rfl S.co S.gen rfl (PySem.W.codeRec_of KX iC) (hb _ _ _ _ ?_);refine wpAny_newFunctionEnv_cells S.kind vU λenv he s1 x=>?_
  subst he;refine⟨lim.keeps x.toInCall.keep,codeAny_func ?_⟩;obtain⟨t,ht,hq⟩:=qH A outer s H vs Q E (hr.deeper _) qu;have I:Inv (a0M CX P w K mg base N qual scope f gz A outer s H E) [] (start N vs) H s1:=b0T S hr.hd e0 hl r x;refine dU (ht [] s1 (start N vs) H _ I hq) (λfl s' hs=>?_) λe s' hs=>hs
  have fin:∀{U':St} {H':Hp} {v:V} {u:ak},Inv (a0M CX P w K mg base N qual scope f gz A outer s H E) [] U' H' s'->RelV v u->Q v H'->CE outer P w H s Q u s':=
    λ{U' H' v u} J rv q=>⟨v,H',J.os,J.bare,J.base,J.hok,rv,q⟩
  cases fl with
  |ret u=>
    obtain⟨v,U',H',J,rv,q⟩:=hs;exact fin J rv q
  |next=>
    obtain⟨U',H',J,q⟩:=hs;exact fin (v:=V.non) (u:=bw) J rfl q
  |brk=>
    obtain⟨_,_,_,q⟩:=hs;exact dC q
  |cont=>
    obtain⟨_,_,_,q⟩:=hs;exact dC q
section
variable {X:Cx}{x:bE}{p pos:fW}{e:Expr}{es:List Expr}{t:TA}{id T:String}{r:List V->Hp->VK->Prop}
def tCB(r:List V->Hp->VK->Prop)(t:TA):TE:=λU H Q=>t U H λvs H1=>r vs H1 Q
def a2S(hc:CallR X (.builtin id) r)(hg:Gl X x)(hm:X.mg x=xn)(hv:gY x=cz (.builtin id))(ha:PA X (e::es) t)(hn:autoParam (x≠"__name__") ZV._auto_1)(mB:autoParam ((x==("__debug__":bE))=yp) ZV._auto_1)
    (he:au (e::es) X.env=(yp,cK e X.env)::au es X.env:=by rfl) (gT:(cM pos (au es X.env)).any (·.1)=yp:=by rfl):PE X (.Call (.Name x p) (e::es) [] pos) (tCB r t):=by
  intro pins s U H Q I h;refine gx (a0u I hg hm hv ?_ hn mB);exact PyProof.Rows.callWith_builtin1 (thn (ha pos pins s U H _ I h) λus s1 ⟨vs,H1,I1,r1,q1⟩=>hc pins s1 U H1 vs us Q I1 r1 q1) he gT
def Y6(hc:CallR X (.type T) r)(hg:Gl X x)(hm:X.mg x=xn)(hv:gY x=cz (.type T))(ha:PA X (e::es) t)(hn:autoParam (x≠"__name__") ZV._auto_1)(mB:autoParam ((x==("__debug__":bE))=yp) ZV._auto_1)
    (he:au (e::es) X.env=(yp,cK e X.env)::au es X.env:=by rfl) (gT:(cM pos (au es X.env)).any (·.1)=yp:=by rfl):PE X (.Call (.Name x p) (e::es) [] pos) (tCB r t):=by
  intro pins s U H Q I h;refine gx (a0u I hg hm hv ?_ hn mB);exact gw (thn (ha pos pins s U H _ I h) λus s1 ⟨vs,H1,I1,r1,q1⟩=>hc pins s1 U H1 vs us Q I1 r1 q1) he gT
end
end L2
namespace HT
open PySem PyProof.Rows
def lexLt:List Int->List Int->Bool
  |[],[]=>yp
  |[],_::_=>yn
  |_::_,[]=>yp
  |x::xs,y::ys=>if x=y then lexLt xs ys else decide (x<y)
def a2T(x y:Int)(xs ys:List Int):lexLt (x::xs) (y::ys)=if x=y then lexLt xs ys else decide (x<y):=rfl
def a4k:lexLt [] []=yp:=rfl
def a2U(y:Int)(ys:List Int):lexLt [] (y::ys)=yn:=rfl
def a2V(x:Int)(xs:List Int):lexLt (x::xs) []=yp:=rfl
def b2M(A:bS)(s:ar)(a:Int)(t:Tok)(c:Int)(u:Tok):∃e,SeqAt.EqAt A s (.int a t) (.int c u) e/\(e=yn↔a=c):=
  ⟨(a==c),SeqAt.EqAt.int_int a t c u,by simp⟩
def b2N(A:bS)(s:ar)(a:Int)(t:Tok)(c:Int)(u:Tok)(prog:bB)(w:bZ)(E:ak->ar->Prop)(Q:ak->ar->Prop)(h:Q (.bool (decide (a<c))) s) :
    aX (aV prog w) A (nF .Lt (.int a t) (.int c u)) Q E s:=
  (PyProof.Rows.lt_int h:aX (aV prog w) A (cC .Lt (.int a t) (.int c u)) Q E s)
section
open PySem.SeqAt
open PySem.AutoSeq1 (wpAny_loadPart')
open PySem.MeetsSeq PySem.MeetsSeq2 PySem.MeetsSeq3
def a4l(l b:av)(items e_:Array ak)(n n2:Nat)(dd oK:Option av)(sl oB:Array (Option ak))(ns ms:List Int)(hi:IntsAre items.toList ns)(hj:IntsAre e_.toList ms) :
    Meets (Builtin.«tuple.__lt__» ⟨[.ref l,.ref b],[]⟩)
      (λ_ R s=>s.heap.get? l=cz {cls:=.type "tuple",dict:=dd,data:=.seq items n,slots:=sl}/\s.heap.get? b=cz {cls:=.type "tuple",dict:=oK,data:=.seq e_ n2,slots:=oB}/\
        R (.ok (.ret (.bool (lexLt ns ms)))) s):=
  .of_wp λprog w A R s h=>by
    obtain⟨hp,g,d,tk,os⟩:=s;obtain⟨hl,hb,h⟩:=h;have f2:=Ap;have z1:items.size=ns.length:=by rw[<-hi.length];simp
    have z2:e_.size=ms.length:=by rw[<-hj.length];simp
    wp_walk using wpAny_loadPart' hl,wpAny_loadPart' hb,rA _ (λrest b s'=>b.1=xn/\s'=⟨hp,g,d,tk,os⟩/\∃(vs ws:List ak) (uz uA:List Int),rest=vs.zip ws/\
      IntsAre vs uz/\IntsAre ws uA/\uz.length+e_.size=uA.length+items.size/\R (.ok (.ret (.bool (lexLt uz uA)))) ⟨hp,g,d,tk,os⟩) _
    case turn=>
      rintro⟨y,x⟩ rest b s' ⟨q_,rfl,vs,ws,uz,uA,hz,tz,xu,hlen,hR⟩;cases tz with
      |nil=>rw[n_]at hz;cases hz
      |cons a t rH=>
        cases xu with
        |nil=>rw[nu]at hz;cases hz
        |cons c u yH=>
          rw[dB]at hz
          injection hz with yE jK
          injection yE with hy hx
          subst hy hx;rw[a2T]at hR;simp only[aS]at hlen;obtain⟨e,he,vY⟩:=b2M A.in1 ⟨hp,g,d,tk,os⟩ a t c u;refine ae (he prog w _ _ ?_);cases e with
          |true=>
            rw[aB (vY.mp rfl)]at hR
            wp_walk
            exact⟨rfl,rfl,_,_,_,_,jK,rH,yH,by omega,hR⟩
          |false=>
            rw[aJ (λq=>absurd (vY.mpr q) bU)]at hR;have tH:=b2N A.in1 ⟨hp,g,d,tk,os⟩ a t c u prog w
            wp_walk using tH
            exact⟨_,rfl,by simpa using hR⟩
    case fin=>
      rintro⟨b1,b2⟩ s' ⟨q_,rfl,vs,ws,uz,uA,hz,tz,xu,hlen,hR⟩;simp only at q_;subst q_;have hv:lexLt uz uA=decide (items.size<e_.size):=by
        cases tz with
        |nil=>
          cases xu with
          |nil=>
            simp only[gh]at hlen;rw[a4k];exact (bg (by omega)).symm
          |cons c u hw=>
            simp only[gh,aS]at hlen;rw[a2U];exact (aW (by omega)).symm
        |cons a t hv=>
          cases xu with
          |nil=>
            simp only[gh,aS]at hlen;rw[a2V];exact (bg (by omega)).symm
          |cons c u hw=>
            rw[dB]at hz;cases hz
      rw[hv]at hR
      wp_walk
      exact⟨_,rfl,by simpa[rq]using hR⟩
    case h=>
      exact⟨rfl,rfl,items.toList,e_.toList,ns,ms,rfl,hi,hj,by omega,h⟩
end
section
variable {prog:bB}{w:bZ}{A:bS}{E:ak->ar->Prop}{s:ar}
def a7Q(hl:IsTup s.heap l items)(hb:IsTup s.heap b e_)(hi:IntsAre items.toList ns)(hj:IntsAre e_.toList ms)
    (hu:A.units<dQ) (h:Q (.bool (lexLt ns ms)) s):aX (aV prog w) A (cC .Lt (.ref l) (.ref b)) Q E s:=by
  obtain⟨⟨cls,dd,data,sl⟩,ho,hc,n,hd⟩:=id hl;obtain⟨⟨Ab,oK,data2,oB⟩,Bc,rP,n2,hd2⟩:=id hb;simp only at hc hd rP hd2;subst hc hd rP hd2;exact ml (op:=.Lt) ⟨_,ho,rfl⟩ ⟨_,Bc,rfl⟩ PySem.F.slot_tuple_lt PySem.F.entry_tuple_lt (PySem.F.args_tuple_lt_2 _ _) (a4l l b items e_ n n2 dd oK sl oB ns ms hi hj)
    ⟨ho,Bc,show mE (lexLt ns ms)≠ak.notImplemented/\Q (.bool (lexLt ns ms)) s from⟨(λx=>nomatch x),h⟩⟩ hu
def sIx(n d:Nat):Option Int->Nat
  |none=>d
  |some v=>if v<0 then (v+(n:Int)).toNat else min v.toNat n
end
end HT
namespace L2
open PySem PySem.Spec PyProof.Rows
abbrev TO:=St->Hp->(Option Int->Hp->Prop)->Prop
def PO(X:Cx)(e:Option Expr)(t:TO):Prop:=
  ∀(pins:List (av×fY)) (s:ar) (U:St) (H:Hp) (Q:Option Int->Hp->Prop),Inv X pins U H s->t U H Q->
    aX (aV X.prog X.w) X.A (evalPart e X.env) (λu s'=>∃o H',Inv X pins U H' s'/\IsPart u o/\Q o H') X.xe s
def b5O:TO:=λ_ H Q=>Q xn H
def c0Y(t:TE):TO:=λU H Q=>t U H λx H1=>∃i,x=.int i/\Q (cz i) H1
section
variable {X:Cx}{e:Expr}{te:TE}{lo hi:Option Expr}{tl th:TO}{pos p2:fW}
def b5P:PO X xn b5O:=by
  intro pins s U H Q I h;rw[evalPart_none];exact aE ⟨xn,H,I,.none,h⟩
def b5Q(h:PE X e te):PO X (cz e) (c0Y te):=by
  intro pins s U H Q I hw;rw[evalPart_some];refine thn (h pins s U H _ I hw) λu s1 ⟨x,H1,I1,r1,q1⟩=>?_
  obtain⟨i,rfl,q⟩:=q1;obtain⟨t,rfl⟩:=r1;exact⟨cz i,H1,I1,.int i t,q⟩
def SlR(X:Cx)(r:V->Option Int->Option Int->Hp->VK->Prop):Prop:=
  ∀(pins:List (av×fY)) (s:ar) (U:St) (H:Hp) (x:V) (v vl vu:ak) (lo hi:Option Int) (sl:av) (Q:VK),Inv X pins U H s->RelV x v->s.heap.IsSliceOf sl vl vu .none->IsPart vl lo->IsPart vu hi->r x lo hi H Q->
    ∃T id,typeLookup (.type T) "__getitem__"=pure (cz (.builtin id))/\s.TypeIs v T/\aX (aV X.prog X.w) X.A (qL v (.ref sl)) (EP X pins U Q) X.xe s
def tSl(r:V->Option Int->Option Int->Hp->VK->Prop)(te:TE)(tl th:TO):TE:=λU H Q=>te U H λx H1=>tl U H1 λl H2=>th U H2 λu H3=>r x l u H3 Q
def b2O(hr:SlR X r)(he:PE X e te)(hl:PO X lo tl)(hu:PO X hi th):PE X (.Subscript e (.Slice lo hi xn p2) pos) (tSl r te tl th):=by
  intro pins s U H Q I h;refine Subscript_ (thn (he pins s U H _ I h) λv s1 ⟨x,H1,I1,r1,q1⟩=>?_);refine wpAny_Slice (thn (hl pins s1 U H1 _ I1 q1) λvl s2 ⟨l,H2,I2,pl,q2⟩=>thn (hu pins s2 U H2 _ I2 q2) λvu s3 ⟨u,H3,I3,pu,q3⟩=>?_);rw[evalPart_none];refine aE ?_;have I4:Inv X pins U H3 {s3 with heap:=s3.heap.push {cls:=.type "slice",data:=.fields #[vl,vu,.none]}}:=I3.kept (t':=s3.toks) λb ob q=>aG _ q
  obtain⟨T,id,hT,ht,hg⟩:=hr pins {s3 with heap:=s3.heap.push {cls:=.type "slice",data:=.fields #[vl,vu,.none]}} U H3 x v vl vu l u s3.heap.objs.size Q I4 r1 (cS.IsSliceOf.new ..) pl pu q3;show aX (aV X.prog X.w) X.A (subscriptTail e (.Slice lo hi xn p2) v (.ref s3.heap.objs.size)) (EP X pins U Q) X.xe {s3 with heap:=s3.heap.push {cls:=.type "slice",data:=.fields #[vl,vu,.none]}};exact tail_any (ops:=[.ref s3.heap.objs.size,v]) ht hT hg (by with_unfolding_all rfl)
def a7R(xs:List V)(lo hi:Option Int):List V:=(xs.drop (HT.sIx xs.length 0 lo)).take (HT.sIx xs.length xs.length hi-HT.sIx xs.length 0 lo)
def a6s(xs:List V)(lo hi:Option Int):(a7R xs lo hi).length<=xs.length:=by
  unfold a7R;rw[dZ,gH];omega
end
def ixN(n:Nat)(i:Int):Option Nat:=if 0<=i then (if i<n then cz i.toNat else xn) else if -(n:Int)<=i then cz (i+n).toNat else xn
def atI{α:Type}(xs:List α)(i:Int):Option α:=(ixN xs.length i).bind λj=>xs[j]?
def a2F(h:ixN n i=cz j):seqIndex? i n=cz j/\j<n/\-(n:Int)<=i/\i<n:=by
  unfold ixN at h;by_cases h0:0<=i
  · rw[aB h0]at h
    by_cases h1:i<n
    · rw[aB h1]at h
      have e:i.toNat=j:=aH h;exact⟨by rw[seqIndex_of h0 h1,e],by omega,by omega,h1⟩
    · rw[aJ h1]at h;cases h
  · rw[aJ h0]at h
    by_cases h1:-(n:Int)<=i
    · rw[aB h1]at h
      have e:(i+n).toNat=j:=aH h;exact⟨by rw[seqIndex_neg (by omega) h1,e],by omega,h1,by omega⟩
    · rw[aJ h1]at h;cases h
def a9t{α:Type}{xs:List α}{i:Int}{v:α}(h:atI xs i=cz v):∃j,seqIndex? i xs.length=cz j/\xs[j]?=cz v/\j<xs.length/\-(xs.length:Int)<=i/\i<xs.length:=by
  unfold atI at h;cases e:ixN xs.length i with
  |none=>rw[e]at h;cases h
  |some j=>
    rw[e]at h;obtain⟨h1,h2,h3,h4⟩:=a2F e;exact⟨j,h1,h,h2,h3,h4⟩
def atI_last{α:Type}(xs:List α)(v:α):atI (xs++[v]) (-1)=cz v:=by
  have hl:(xs++[v]).length=xs.length+1:=by simp
  have e:ixN (xs++[v]).length (-1)=cz xs.length:=by
    unfold ixN;rw[hl,aJ (by decide),aB (by omega)]
    congr 1;omega
  unfold atI;rw[e];show (xs++[v])[xs.length]?=cz v;simp
def a0N(b:Expr):Prop:=∀o i,sr b yp o i=operate [o,i] (qL o i)
def IxR(X:Cx)(r:R2):Prop:=
  ∀(value slice:Expr) (pins:List (av×fY)) (s:ar) (U:St) (H:Hp) (x y:V) (v u:ak) (Q:VK),Inv X pins U H s->RelV x v->RelV y u->r x y H Q->
    sr slice yp v u=operate [v,u] (qL v u)->aX (aV X.prog X.w) X.A (subscriptTail value slice v u) (EP X pins U Q) X.xe s
def MtR(X:Cx)(id:String)(r:V->List V->Hp->VK->Prop):Prop:=
  ∀(pins:List (av×fY)) (s:ar) (U:St) (H:Hp) (x:V) (xs:List V) (v:ak) (us:List ak) (Q:VK),Inv X pins U H s->RelV x v->Vals xs us->r x xs H Q->
    aX (aV X.prog X.w) X.A (call (.builtin id) (v::us)) (EP X pins U Q) X.xe s
section
variable {X:Cx}{a b:Expr}{ta tb:TE}{pos:fW}
def IxR.or(h:IxR X r)(h':IxR X r'):IxR X (λx y H Q=>r x y H Q\/r' x y H Q):=by
  intro value slice pins s U H x y v u Q I rx ry q hs;rcases q with q|q
  · exact h value slice pins s U H x y v u Q I rx ry q hs
  · exact h' value slice pins s U H x y v u Q I rx ry q hs
def a6t(hr:IxR X r)(ha:PE X a ta)(hb:PE X b tb)(hs:a0N b):PE X (.Subscript a b pos) (tOp r ta tb):=by
  intro pins s U H Q I h;exact Subscript_ (b8C ha hb I h λv u s2 x y H2 I2 rx ry q=>hr a b pins s2 U H2 x y v u Q I2 rx ry q (hs _ _))
def c0Z(K:ag):R2:=λx y H Q=>∃p xs i v,x=.ref p/\y=.int i/\SqL K H p xs/\atI xs i=cz v/\Q v H
def c1a(K:ag):R2:=λx y H Q=>∃p xs i v,x=.ref p/\y=.int i/\SqT K H p xs/\atI xs i=cz v/\Q v H
def b5R:IxR X (c0Z X.K):=by
  intro value slice pins s U H x y v u Q I rx ry h hs;obtain⟨p,xs,i,z,rfl,rfl,hq,he,q⟩:=h;cases rx
  obtain⟨t,rfl⟩:=ry;obtain⟨its,r,pl,hz⟩:=I.list hq;obtain⟨j,h1,h2,h3,h4,h5⟩:=a9t he;obtain⟨w,ew,vb⟩:=r.get h2;have hl:=r.length;have hn:=a1q;have fin:EP X pins U Q w s:=⟨z,H,I,vb,q⟩;by_cases h0:0<=i
  · have hj:i.toNat=j:=by
      rw[seqIndex_of h0 h5]at h1;exact aH h1
    exact item_listR pl.isList h0 (by omega) (by rw[hj];simpa using ew) fin hs
  · have hj:(i+(its.toArray.size:Int)).toNat=j:=by
      rw[seqIndex_neg (by omega) h4]at h1;rw[be,<-hl];exact aH h1
    exact subscriptTail_builtinR (x:=w) pl.isList.typeIs slot_list_getitem.lookup
      (wpAny_getItem_list_neg (Q:=λr s'=>r=w/\EP X pins U Q r s') pl.isList (by omega) (by rw[be]<;>omega) (by omega) (by rw[hj];simpa using ew) ⟨rfl,fin⟩) hs
def b8O:IxR X (c1a X.K):=by
  intro value slice pins s U H x y v u Q I rx ry h hs;obtain⟨p,xs,i,z,rfl,rfl,hq,he,q⟩:=h;cases rx
  obtain⟨t,rfl⟩:=ry;obtain⟨its,r,pl,hz⟩:=I.tuple hq;obtain⟨j,h1,h2,h3,h4,h5⟩:=a9t he;obtain⟨w,ew,vb⟩:=r.get h2;have hl:=r.length;have hn:=a1q;have fin:EP X pins U Q w s:=⟨z,H,I,vb,q⟩;exact subscriptTail_builtinR (x:=w) pl.typeIs slot_tuple_getitem.lookup
    (getItem_tuple (j:=j) (Q:=λr s'=>r=w/\EP X pins U Q r s') pl (by omega) (by omega) (by rw[be,<-hl];exact h1) (by simpa using ew) ⟨rfl,fin⟩) hs
def a7S(its:List ak)(n j:Nat)(u:ak):bX (·.setIfInBounds j u) {cls:=.type "list",data:=.seq its.toArray n}={cls:=.type "list",data:=.seq (its.set j u).toArray n}:=by
  simp[bX]
theorem Inv.lst{pins:List (av×fY)}{U:St}{H:Hp}{s:ar}{p:av}{xs:List V}(I:Inv X pins U H s)(h:H p=cz (.lst xs)) :
    ∃(its:List ak) (n:Nat),Vals xs its/\s.heap.get? p=cz {cls:=.type "list",data:=.seq its.toArray n}/\xs.length<=aZ:=by
  obtain⟨z,its,n,r,e⟩:=I.hok p _ h;exact⟨its,n,r,e,z⟩
def Inv.lstUpd{its its':List ak}(I:Inv X pins U H s)(h:H p=cz (.lst xs))
    (ho:s.heap.get? p=cz {cls:=.type "list",data:=.seq its.toArray n}) (hf:f {cls:=.type "list",data:=.seq its.toArray n}={cls:=.type "list",data:=.seq its'.toArray n'}) (r:Vals ys its') (hz:ys.length<=aZ) (t:Nat) :
    Inv X pins U (upd H p (.lst ys)) {s with heap:=s.heap.update p f,toks:=t}:=by
  have e:(s.heap.update p f).get? p=cz {cls:=.type "list",data:=.seq its'.toArray n'}:=by
    rw[cJ f ho (by rw[hf]<;>rfl),hf]
  refine I.write (x:=p) (e:=p) (by rw[h];trivial) (.inl rfl) (λb u hb q=>(dG _ _ (cR hb)).trans q) ⟨_,e⟩ ?_;exact⟨hz,its',n',r,e⟩
def c1b:V->V->V->Hp->(Hp->Prop)->Prop:=λo i v H Q=>∃p xs k j,o=.ref p/\i=.int k/\H p=cz (.lst xs)/\ixN xs.length k=cz j/\Q (upd H p (.lst (xs.set j v)))
def set_list:c0P X c1b:=by
  intro pins s U H o i v ov iv u Q I ro ri rv h;obtain⟨p,xs,k,j,rfl,rfl,hp,hj,q⟩:=h;cases ro
  obtain⟨t,rfl⟩:=ri;obtain⟨its,n,r,ho,hz⟩:=I.lst hp;obtain⟨h1,h2,h3,h4⟩:=a2F hj;have hl:=r.length;have hn:=a1q;have I':Inv X pins U (upd H p (.lst (xs.set j v))) {s with heap:=s.heap.update p (bX (·.setIfInBounds j u))}:=
    I.lstUpd hp ho (a7S its n j u) (r.set rv j) (by rw[gU];exact hz) s.toks
  by_cases h0:0<=k
  · have hk:k.toNat=j:=by
      rw[seqIndex_of h0 h4]at h1;exact aH h1
    exact PySem.W.ki_setAt ho h0 (by omega) (by rw[be,<-hl];exact h4) (by rw[hk];exact⟨_,I',q⟩)
  · have hk:(k+(its.toArray.size:Int)).toNat=j:=by
      rw[seqIndex_neg (by omega) h3]at h1;rw[be,<-hl];exact aH h1
    exact PySem.W.ki_setBack ho (by omega) (by rw[be,<-hl];exact h3) (by omega) (by rw[hk];exact⟨_,I',q⟩)
def a5t(lo hi:Option Int)(n:Nat):(jI lo hi xn n).1=((HT.sIx n 0 lo:Nat):Int)/\(jI lo hi xn n).2.1=((HT.sIx n n hi:Nat):Int)/\(jI lo hi xn n).2.2=1:=by
  refine⟨?_,?_,rfl⟩
  · cases lo with
    |none=>simp[jI,HT.sIx]
    |some i=>
      simp only[jI,HT.sIx,Fg,show (1:Int)>0 by decide,nI];by_cases h:i<0
      · simp only[h,nI]<;>omega
      · simp only[h,dh]<;>omega
  · cases hi with
    |none=>simp[jI,HT.sIx]
    |some i=>
      simp only[jI,HT.sIx,Fg,show (1:Int)>0 by decide,nI];by_cases h:i<0
      · simp only[h,nI]<;>omega
      · simp only[h,dh]<;>omega
def a4m(its:List ak)(lo hi:Option Int):slicePick its.toArray lo hi xn=((its.drop (HT.sIx its.length 0 lo)).take (HT.sIx its.length its.length hi-HT.sIx its.length 0 lo)).toArray:=by
  obtain⟨h1,h2,h3⟩:=a5t lo hi its.toArray.size;unfold slicePick;rw[h1,h2,h3];simp only[sliceRange_one,pick_run,be]<;>rfl
def c2N(K:ag):V->Option Int->Option Int->Hp->VK->Prop:=λx lo hi H Q=>∃a xs,x=.ref a/\SqL K H a xs/\∀p,H p=xn->Q (.ref p) (upd H p (.lst (a7R xs lo hi)))
def b5S:SlR X (c2N X.K):=by
  intro pins s U H x v vl vu lo hi sl Q I rx hs pl pu h;obtain⟨a,xs,rfl,hx,q⟩:=h;cases rx
  obtain⟨its,r,ht,hz⟩:=I.list hx;have hlen:=r.length;refine⟨"list",_,slot_list_getitem.lookup,ht.isList.typeIs,?_⟩;refine wpAny_getItem_list_slice ht.isList hs pl pu .none (by simp) ?_ (by rw[be]<;>omega);rw[a4m,<-hlen];refine⟨.ref s.heap.objs.size,_,I.laid (t':=s.toks) (o:=.lst (a7R xs lo hi)) (λb ob q=>aG _ q) (ay _) ?_,rfl,q _ (I.hok.fresh (ay _))⟩;exact⟨cF (a6s xs lo hi) hz,_,0,(r.drop (HT.sIx xs.length 0 lo)).take (HT.sIx xs.length xs.length hi-HT.sIx xs.length 0 lo),bh _ rfl⟩
def a5u:CallR X (.builtin "len") (λxs H Q=>∃p ys,xs=[.ref p]/\(SqL X.K H p ys\/SqT X.K H p ys)/\Q (.int ys.length) H):=by
  intro pins s U H xs us Q I r h;obtain⟨p,ys,rfl,hq,q⟩:=h;obtain⟨u,rfl,rx⟩:=vals1 r;cases rx
  have hn:=a1q;rcases hq with hq|hq
  · obtain⟨its,r',pl,hz⟩:=I.list hq
    have hlen:=r'.length;exact Calls.call_len_list pl.isList (by simp only[be]<;>omega) ⟨.int ys.length,H,I.tok _,⟨s.toks+1,by rw[be,hlen]⟩,q⟩
  · obtain⟨its,r',pl,hz⟩:=I.tuple hq
    have hlen:=r'.length;exact len_tuple pl (by simp only[be]<;>omega) ⟨.int ys.length,H,I.tok _,⟨s.toks+1,by rw[be,hlen]⟩,q⟩
def a5v:CallR X (.builtin "len") (λxs H Q=>∃z,xs=[.str z]/\z.length<=aZ/\Q (.int z.length) H):=by
  intro pins s U H xs us Q I r h;obtain⟨z,rfl,hz,q⟩:=h;obtain⟨u,rfl,t,rfl⟩:=vals1 r;have hn:=a1q;exact len_str (by omega) ⟨.int z.length,H,I.tok _,⟨_,rfl⟩,q⟩
def CallR.or(h:CallR X f r)(h':CallR X f r'):CallR X f (λxs H Q=>r xs H Q\/r' xs H Q):=by
  intro pins s U H xs us Q I rs q;rcases q with q|q
  · exact h pins s U H xs us Q I rs q
  · exact h' pins s U H xs us Q I rs q
def a5w:CallR X (.type "list") (λxs H Q=>∃p ys,xs=[.ref p]/\(SqL X.K H p ys\/SqT X.K H p ys)/\∀l,H l=xn->Q (.ref l) (upd H l (.lst ys))):=by
  intro pins s U H xs us Q I r h;obtain⟨p,ys,rfl,hq,q⟩:=h;obtain⟨u,rfl,rx⟩:=vals1 r;cases rx
  have fin:∀(its:List ak),Vals ys its->ys.length<=aZ->∀(h':cS) (c':Nat),(∀b o',s.heap.get? b=cz o'->h'.get? b=cz o')->
      h'.get? s.heap.objs.size=cz {cls:=.type "list",dict:=xn,data:=.seq its.toArray c',slots:=#[]}->EP X pins U Q (.ref s.heap.objs.size) {s with heap:=h'}:=λits r' hz h' c' kp e=>
    ⟨.ref s.heap.objs.size,_,I.laid (t':=s.toks) kp (ay _) (show ObjOk X.prog X.w _ h' _ (.lst ys) from⟨hz,its,c',r',e⟩),rfl,q _ (I.hok.fresh (ay _))⟩
  rcases hq with hq|hq
  · obtain⟨its,r',pl,hz⟩:=I.list hq
    have hlen:=r'.length;obtain⟨o,ho,hc,n,hd⟩:=pl.isList;exact call_list_seq p (.inl rfl) ho hc hd (λh' c' kp e=>fin its r' hz h' c' kp e) (by simp only[be]<;>omega)
  · obtain⟨its,r',pl,hz⟩:=I.tuple hq
    have hlen:=r'.length;obtain⟨o,ho,hc,n,hd⟩:=pl;exact call_list_seq p (.inr rfl) ho hc hd (λh' c' kp e=>fin its r' hz h' c' kp e) (by simp only[be]<;>omega)
def a4n:CallR X (.type "tuple") (λxs H Q=>∃p ys,xs=[.ref p]/\((SqL X.K H p ys/\∀l,H l=xn->Q (.ref l) (upd H l (.tup ys)))\/(SqT X.K H p ys/\Q (.ref p) H))):=by
  intro pins s U H xs us Q I r h;obtain⟨p,ys,rfl,h⟩:=h;obtain⟨u,rfl,rx⟩:=vals1 r;cases rx
  rcases h with⟨hq,q⟩|⟨hq,q⟩
  · obtain⟨its,r',pl,hz⟩:=I.list hq
    have hlen:=r'.length;refine call_tuple_list pl.isList (λh' kp=>?_) (by simp only[be]<;>omega);have I1:Inv X pins U H {s with heap:=h'}:=I.kept (t':=s.toks) kp;have I2:Inv X pins U (upd H h'.objs.size (.tup ys)) {s with heap:=h'.push {cls:=.type "tuple",data:=.seq its.toArray}}:=
      I1.laid (t':=s.toks) (λb o e=>aG _ e) (ay _) (show ObjOk X.prog X.w _ _ _ (.tup ys) from⟨hz,its,r',IsTup.new _ _⟩)
    exact⟨.ref h'.objs.size,_,I2,rfl,q _ (I1.hok.fresh (ay _))⟩
  · obtain⟨its,r',pl,hz⟩:=I.tuple hq
    exact call_tuple_same pl ⟨.ref p,H,I,rfl,q⟩
def tyV(K:ag)(T:String)(x:V)(H:Hp):Prop:=match x with
  |.str _=>T="str"
  |.int _=>T="int"
  |.ref p=>(T="list"/\∃xs,SqL K H p xs)\/(T="tuple"/\∃o,K.lookup p=cz o/\o.cls=.type "tuple"/\o.dict=xn)\/
      (T="dict"/\((∃kvs,H p=cz (.dK kvs))\/∃kvs,H p=cz (.dT kvs)))\/(T="set"/\∃S n,H p=cz (.set S n))
  |_=>False
def b8P(I:Inv X pins U H s)(r:RelV x v)(ty:tyV X.K T x H) :
    s.TypeIs v T/\∀a,v=.ref a->∃ob,s.heap.get? a=cz ob/\ob.dict=xn:=by
  cases x with
  |str z=>
    obtain⟨t,rfl⟩:=r;cases (show T="str" from ty)
    exact⟨typeIs_str s z t,λ_ e=>nomatch e⟩
  |int i=>
    obtain⟨t,rfl⟩:=r;cases (show T="int" from ty)
    exact⟨typeIs_int s i t,λ_ e=>nomatch e⟩
  |ref p=>
    cases r
    rcases ty with⟨rfl,xs,hq⟩|⟨rfl,o,hk,hc,hd⟩|⟨rfl,hk⟩|⟨rfl,S,n,hk⟩
    · obtain⟨its,_,pl,_⟩:=I.list hq
      refine⟨pl.isList.typeIs,λa e=>?_⟩;cases e
      obtain⟨o,n,e,c,hd,_⟩:=pl;exact⟨o,e,hd⟩
    · refine⟨⟨o,I.kIn p o hk,hc⟩,λa e=>?_⟩
      cases e
      exact⟨o,I.kIn _ o hk,hd⟩
    · have z:∃o,s.heap.get? p=cz o/\o.ExactDict:=by
        rcases hk with⟨kvs,hk⟩|⟨kvs,hk⟩
        · obtain⟨_,_,_,_,o,_,_,e,ex,_⟩:=I.hok p _ hk
          exact⟨o,e,ex⟩
        · obtain⟨_,_,_,_,o,_,_,e,ex,_⟩:=I.hok p _ hk
          exact⟨o,e,ex⟩
      obtain⟨o,e,ex⟩:=z;refine⟨⟨o,e,ex.1⟩,λa e2=>?_⟩;cases e2
      exact⟨o,e,ex.2.1⟩
    · obtain⟨o,_,_,_,e,ex,_⟩:=I.hok p _ hk
      refine⟨⟨o,e,ex.1⟩,λa e2=>?_⟩;cases e2
      exact⟨o,e,ex.2.1⟩
  |_=>exact dC ty
def tBM(K:ag)(T:String)(r:V->List V->Hp->VK->Prop)(to:TE)(t:TA):TE:=λU H Q=>to U H λx H1=>tyV K T x H1/\t U H1 λxs H2=>r x xs H2 Q
variable {o e:Expr}{es:List Expr}{to:TE}{t:TA}{name:bE}{apos cP:fW}{T id:String}{r:V->List V->Hp->VK->Prop}
def a4F(pa:PlainAttrs T)(slot:Slot T name id)(yM:typeOf (.builtin id)=pure (.type "method_descriptor"))(hm:MtR X id r)(ho:PE X o to)(ha:PA X (e::es) t)
    (fJ:dY o name X.env (cK o X.env)=cK o X.env:=by rfl)
    (iK:((cM cP (au (e::es) X.env)).all (λx=>!x.1)&&(eX cP (dD [] X.env)).all (λx=>x.1.isSome)
      && decide ((e::es).length+([]:List eO).length+(if ([]:List eO).isEmpty then 0 else 1)<30))=yn:=by rfl)
    (fI:(apos.endLine==cP.line)=yn:=by rfl) (hs:au (e::es) X.env=(yp,cK e X.env)::au es X.env:=by rfl) (eJ:(cM cP (au es X.env)).any (·.1)=yp:=by rfl) :
    PE X (.Call (.Attribute o name apos) (e::es) [] cP) (tBM X.K T r to t):=by
  intro pins s U H Q I h;refine Cc fJ iK fI rfl (thn (ho pins s U H _ I h) λv s1 ⟨x,H1,I1,r1,ty,q1⟩=>?_);obtain⟨h1,h2⟩:=b8P I1 r1 ty;refine⟨T,id,pa,slot,yM,h1,h2,?_⟩;have hA:=ha cP pins s1 U H1 _ I1 q1;rw[hs]at hA ⊢;refine mK (by show (yp||(cM cP (au es X.env)).any (·.1))=yp;rw[eJ]<;>rfl) (og ?_);exact thn hA λus s2 ⟨vs,H2,I2,r2,q2⟩=>hm pins s2 U H2 x vs v us Q I2 r1 r2 q2
end
def MtM(X:Cx)(id:String)(r:V->List V->Hp->VK->Prop):Prop:=
  ∀(pins:List (av×fY)) (s:ar) (U:St) (H:Hp) (x:V) (xs:List V) (v:ak) (us:List ak) (Q:VK),Inv X pins U H s->RelV x v->Vals xs us->r x xs H Q->
    aX (aV X.prog X.w) X.A (call (.builtin id) (v::us)) (EP X pins U Q) X.xe s
def Vals.one:∀{x:V} {us:List ak},Vals [x] us->∃u,us=[u]/\RelV x u
  |_,_,.cons r .nil=>⟨_,rfl,r⟩
section
variable {X:Cx}{pins:List (av×fY)}{U:St}{H:Hp}{s:ar}{l b:av}{xs ys zs:List V}
def Inv.lset{its its':List ak}(I:Inv X pins U H s)(hH:H l=cz (.lst xs))
    (e:s.heap.get? l=cz {cls:=.type "list",data:=.seq its.toArray n}) (hf:f its.toArray=its'.toArray) (hv:Vals ys its') (hz:ys.length<=aZ) :
    Inv X pins U (upd H l (.lst ys)) {s with heap:=s.heap.update l (bX f),toks:=t'}:=by
  have q:=PySem.IsL.update e f;rw[hf]at q;refine I.write (x:=l) (e:=l) (by rw[hH];exact trivial) (.inl rfl) (λb' u hb hu=>(dG s.heap (bX f) (cR hb)).trans hu) ⟨_,q⟩ ?_;exact⟨hz,its',_,hv,q⟩
def Inv.lnew(I:Inv X pins U H s)(hv:Vals ys its)(hz:ys.length<=aZ) :
    Inv X pins U (upd H s.heap.objs.size (.lst ys)) {s with heap:=s.heap.push {cls:=.type "list",data:=.seq its.toArray},toks:=t'}:=
  I.laid (λ_ _ q=>aG _ q) (ay _) ⟨hz,its,0,hv,bh _ rfl⟩
theorem Inv.fresh(I:Inv X pins U H s):H s.heap.objs.size=xn:=I.hok.fresh (ay _)
def Inv.lstM(I:Inv X pins U H s)(hH:H l=cz (.lst xs)):xs.length<=aZ/\∃(its:List ak) (n:Nat),Vals xs its/\xs.length=its.length/\s.heap.get? l=cz {cls:=.type "list",data:=.seq its.toArray n}:=by
  obtain⟨z,its,n,r,e⟩:=I.hok l _ hH;exact⟨z,its,n,r,r.length,e⟩
def b2P(h:n<=aZ):lH n=yp:=by
  unfold lH;exact bg (by omega)
end
section
variable {X:Cx}
def b5T:V->List V->Hp->VK->Prop:=λx vs H Q=>∃l xs y,x=.ref l/\vs=[y]/\H l=cz (.lst xs)/\xs.length<aZ/\Q .non (upd H l (.lst (xs++[y])))
def Y7:MtM X "list.append" b5T:=by
  intro pins s U H x vs v us Q I rx rv h;obtain⟨l,xs,y,rfl,rfl,hH,hz,q⟩:=h;cases rx
  obtain⟨u,rfl,ru⟩:=rv.one;obtain⟨z,its,n,r,hl,e⟩:=I.lstM hH;refine call_meets F.slot_list_append ⟨_,e,rfl⟩ F.entry_list_append (F.args_list_append_2 _ _) (PySem.list_append l its.toArray n u (by rw[be];omega)) ⟨e,?_⟩;refine⟨.non,_,I.lset (its':=its++[u]) hH e (by simp) (r.append (.cons ru .nil)) ?_,rfl,q⟩;rw[aA,cx];omega
def b5U:V->List V->Hp->VK->Prop:=λx vs H Q=>∃l b xs zs,x=.ref l/\vs=[.ref b]/\H l=cz (.lst xs)/\H b=cz (.lst zs)/\xs.length+zs.length<=aZ/\Q .non (upd H l (.lst (xs++zs)))
def a4G:MtM X "list.extend" b5U:=by
  intro pins s U H x vs v us Q I rx rv h;obtain⟨l,b,xs,zs,rfl,rfl,hH,hB,hz,q⟩:=h;cases rx
  obtain⟨u,rfl,ru⟩:=rv.one;cases ru
  obtain⟨z,its,n,r,hl,e⟩:=I.lstM hH;obtain⟨z2,oD,n2,r2,pI,e2⟩:=I.lstM hB;have kN:its.toArray.size+oD.toArray.size<=aZ:=by rw[be,be];omega
  have vR:¬ (!its.toArray.isEmpty&&lH (its.toArray.size+oD.toArray.size))=yn:=by
    rw[b2P kN,Bool.and_false];exact bU
  refine call_meets F.slot_list_extend ⟨_,e,rfl⟩ F.entry_list_extend (F.args_list_extend_2 _ _)
    (AutoSeq1.list_extend_list_list_0 l its.toArray n b oD.toArray n2 vR (by rw[be];omega) (by omega)) ⟨e,e2,?_⟩
  refine⟨.non,_,I.lset (its':=its++oD) hH e (by simp) (r.append r2) ?_,rfl,q⟩;rw[aA];omega
end
end L2
namespace Att
open PySem PySem.W PySem.Calls PyProof.Rows
def a2B:∀(ns:List Int) (vs:List ak),WellAll P h vs (ns.map WData.int)->IntsAre vs ns:=by
  intro ns
  induction ns with
  |nil=>
    intro vs w;rw[cZ]at w;cases w
    exact .nil
  |cons n ns ih=>
    intro vs w;rw[ax]at w;cases w with
    |cons a b=>
      cases a
      exact .cons _ _ (ih _ b)
def b0U{l:OpenLaw}(hn:l.most=cz n) 
    (nL:l.row.toRowW.claim.pre args=yn) (xt:WellAll P h vals args) :
    ∃a vs ns,vals=[bM a]/\args=[WData.list (ns.map WData.int)]/\h.get? a=cz {cls:=.type "list",data:=.seq vs.toArray}/\IntsAre vs ns/\ns.length<=n:=by
  have Dc:WShape.hasAll [] args [.list .int]=yn:=(pre_splitW nL).1;have hc:l.pre.holds [] {args:=args}=yn:=(pre_splitW nL).2;obtain⟨d,r,rfl,h1,h2⟩:=hasAllW_cons Dc;obtain rfl:=hasAllW_nil h2;obtain⟨xs,rfl,h3⟩:=hasW_list h1;obtain⟨ns,rfl⟩:=items_int h3;have hlen:ns.length<=n:=by
    unfold OpenLaw.pre at hc;have h4:(WTm.not (.lt (.lit (.int (n:Int))) (.len (.arg 0)))).holds [] {args:=[.list (ns.map .int)]}=yn:=by
      have h4:=(holds_andW hc).1;rw[hn]at h4;exact h4
    have h5:=condW_of h4 (w_not (w_lt w_lit (w_len_list (w_arg rfl))));rw[ai]at h5;refine Nat.le_of_not_lt λq=>?_
    have q':(n:Int)<((ns.length:Nat):Int):=by omega
    first
      | (rw[aW q']at h5;exact absurd h5 (by decide))
      | (simp at h5;omega)
  cases xt with
  |cons w1 w2=>
    cases w2
    cases w1 with
    |list ho gL=>exact⟨_,_,ns,rfl,rfl,ho,a2B ns _ gL,hlen⟩
def b0V(l:OpenLaw)(args:List WData):l.row.toRowW.claim.post args (.bool yn) args=yn:=
  postW_of (r:=l.row.toRowW) (X:=(yn==yn))
    (show WShape.has [] (.bool yn) .bool=yn by first|rfl|decide|simp[WShape.has,WShape.arms,WShape.armsAll])
    (show (WTm.eq .res (.lit (.bool yn))).value [] {args:=args,res:=cz (.bool yn),after:=args}=cz (.bool (yn==yn)) from w_eq_bool (w_res rfl) w_lit) rfl
def attach_call{l:OpenLaw}{d:DefRec}
    (hn:l.most=cz n) (wo:d.params.defaults=[])
    (call:∀(w:bZ) (s₀ s₁:ar) (mg mb:bE->Option ak) (fa:av) (o:fY) (pm cd doc:ak) (a:av) (vs:List ak) (ns:List Int),
      Ground q loose [] XP w s₀ mg mb s₁.heap->YP w s₁.heap->
      s₁.heap.get? fa=cz o->o.data=.func (docDef d.name d.params d.body d.scope pm cd doc)->s₁.heap.CodeRec cd d.name->mg d.name=cz (.ref fa)->
      s₁.heap.get? a=cz {cls:=.type "list",data:=.seq vs.toArray}->IntsAre vs ns->ns.length<=n->s₁.gens=#[]->
      gX (aV l.prog w) ou (.call (.ref fa) ⟨[.ref a],[]⟩) (λr s'=>r=.ok (.ret (.bool yn))/\OldK s₁.heap s'.heap/\s'.os=s₁.os/\pD s'.gens) s₁) :
    WalkO q loose XP YP l.row.toRowW d [] (λf vs=>Ah f vs):=by
  intro w s₀ s₁ mg mb G Y fa o pm cd doc dV kV ho hd iC hD vQ hg args vals as nL vS yU xt hlo;obtain rfl:dV=.none:=Dflts.none hD wo;obtain rfl:kV=.none:=Dflts.noKw hD;obtain⟨a,vs,ns,rfl,rfl,tL,hints,hlen⟩:=b0U hn nL xt;refine enter_call (iX (call w s₀ s₁ mg mb fa o pm cd doc a vs ns G Y ho (fd_plain hd) iC vQ tL hints hlen hg) λr s' hq=>?_);obtain⟨rfl,h2,h3,h4⟩:=hq;exact⟨.inl ⟨.bool yn,.bool yn,[],rfl,λ_=>rfl,.bool yn,b0V l _,λ_=>⟨kl,λ_ hm=>(nomatch hm)⟩⟩,h2,h3,h4⟩
section
variable {prog:bB}{w:bZ}{A:bS}{E:ak->ar->Prop}{s:ar}{K:Frag}
def ledger(h:cS)(L d:av):List (av×fY):=(az h.objs.size).filterMap λa=>if a=L\/a=d then xn else (h.get? a).map λo=>(a,o)
end
end Att
namespace L2
open PySem PySem.Spec PyProof.Rows
theorem vals_ints:∀{vs:List ak} {ns:List Int},IntsAre vs ns->Vals (ns.map V.int) vs
  |_,_,.nil=>.nil
  |_,_,.cons n t h=>.cons ⟨t,rfl⟩ (vals_ints h)
abbrev KOf{K:ag}{h:cS}(_:K.In h):ag:=K
end L2
namespace L2
open PySem PySem.Spec PyProof.Rows
def S6(s:iE):oy:=match s with
  |.FunctionDef _ a _ _ _ _ _ _ _ _=>a
  |_=>{posonlyargs:=[],args:=[],vararg:=xn,kwonlyargs:=[],kw_defaults:=[],kwarg:=xn,defaults:=[]}
def v7(s:iE):List iE:=match s with
  |.FunctionDef _ _ b _ _ _ _ _ _ _=>b
  |_=>[]
def g8(s:iE):gC:=match s with
  |.FunctionDef _ _ _ _ _ _ sc _ _ _=>sc
  |_=>{kind:=.function,names:=[],isGenerator:=yp,isCoroutine:=yp}
abbrev CX0:CXT:=λ_ _ _ _ _ _=>False
abbrev E0:XK:=λ_ _ _=>False
def c1c:a7P CX0 X E0:=λ_ _ _ _ _ _ _ h=>h.elim
structure Fun (K:ag) (x qual:bE) (st:iE) (f:av) (fd:dS):Prop where
  ex:∃(oc:ak) (od:Option av) (kV doc pm:ak) (an:Option av) (gz ct:ak) (pF:Array (Option ak)),
    fd=fX x qual (S6 st) (v7 st) (g8 st) .none kV doc pm an gz ct/\K.lookup f=cz ⟨oc,od,.func fd,pF⟩/\lZ K gz qual=yn
  kp:fU K (.ref f)=yn
section
variable {P:bB}{w:bZ}{K:ag}{mg:bE->Option ak}{base:cS}
def Fun.ok{x qual:bE}{st:iE}{f:av}{fd:dS}{N ps:List bE}{k:Nat}{sp:Sp}(F:Fun K x qual st f fd)(S:FnScope N ps (g8 st))(len:∀vs H Q E,sp vs H Q E->vs.length=ps.length)
    (qH:∀(gz:ak) (A:bS) (outer:List oQ) (s:ar) (H:Hp) (vs:List V) (Q:VK) (E:XK),Room k (A.deeper (jv qual (g8 st) s.heap.objs.size f gz))->sp vs H Q E->
      ∃t,PSs (a0M CX0 P w K mg base N qual (g8 st) f gz A outer s H E).nox (v7 st) t/\t {nx:=λ_ H'=>Q .non H',rt:=Q} (start N vs) H):FnOk P w K mg base CX0 (k+1) f fd ps sp:=by
  obtain⟨oc,od,kV,doc,pm,an,gz,ct,pF,rfl,lk,iC⟩:=F.ex;refine b7S lk iC S len λA outer s H vs Q E hr qu=>?_
  obtain⟨t,h,q⟩:=qH gz A outer s H vs Q E hr qu;exact⟨t,h.nox,q⟩
def Fun.binds{x qual:bE}{st:iE}{f:av}{fd:dS}{ps:List bE}(F:Fun K x qual st f fd)
    (h:∀(kV doc pm:ak) (an:Option av) (gz ct:ak) (us:List ak),us.length=ps.length->qM (fX x qual (S6 st) (v7 st) (g8 st) .none kV doc pm an gz ct) ⟨us,[]⟩=pure (ps.zip us)):Binds K fd ps []:=by
  obtain⟨oc,od,kV,doc,pm,an,gz,ct,pF,rfl,lk,iC⟩:=F.ex;exact .all (h kV doc pm an gz ct)
def b8Q{x qual:bE}{st:iE}{f:av}{oc:ak}{od an:Option av}{pF:Array (Option ak)}{kV doc pm gz ct:ak}(l:K.lookup f=cz ⟨oc,od,.func (fX x qual (S6 st) (v7 st) (g8 st) .none kV doc pm an gz ct),pF⟩)
    (c:lZ K gz qual=yn) (k:fU K (.ref f)=yn):Fun K x qual st f (fX x qual (S6 st) (v7 st) (g8 st) .none kV doc pm an gz ct):=⟨⟨oc,od,kV,doc,pm,an,gz,ct,pF,rfl,l,c⟩,k⟩
end
def Y8(h:n<=1000):n<aZ:=fZ h (by decide)
section
variable {X:Cx}
def pv(i:Nat)(hN:X.N[i]?=cz x:=by rfl)(hv:autoParam (Vis X.env.scope x) ZY._auto_1)(hd:autoParam ((x==("__debug__":bE))=yp) ZV._auto_1)
    (iC:autoParam ((x==("__classdict__":bE))=yp) ZV._auto_1):PE X (.Name x pos) (b8m i):=y8 hN hv hd iC
end
def a7T{A B:Prop}(h:B):if yp=yn then A else B:=by
  rw[aJ bU];exact h
def a5x{A B:Prop}(h:A):if yn=yn then A else B:=by
  rw[aB rfl];exact h
def Same(H H':Hp):Prop:=∀b o,H b=cz o->H' b=cz o
def Same.refl(H:Hp):Same H H:=λ_ _ h=>h
def Same.trans(a:Same H H1)(b:Same H1 H2):Same H H2:=λc o h=>b c o (a c o h)
def Same.free{H H':Hp}(e:Same H H'){l:av}(h:H' l=Option.none):H l=Option.none:=by
  cases q:H l with
  |none=>rfl
  |some o=>
    rw[e l o q]at h;cases h
end L2
set_option Elab.async false
set_option linter.all false
set_option maxRecDepth 100000
set_option maxHeartbeats 4000000
namespace L2
open PySem PySem.Spec PyProof.Rows
def B5(X:Cx)(N:List bE)(scope:gC)(cl:List (bE×av))(C:av)(s:ar)(H:Hp)(fp:List av):Cx:=
 {X with N:=N,s₀:=s,H₀:=H,env:=compEnvC scope cl C X.env,outer:=X.stack,ex:=fp,fn:=λ_=>yp,xe:=λ_ _=>False}
structure CompIn (X:Cx) (N:List bE) (scope:gC) (cl:List (bE×av)) (τ:St->St):Prop where
 clos:pL scope X.env=pure cl
 kind:scope.kind=.function
 ncell:∀y∈scope.names,y.2≠.cell
 names:∀y∈scope.names,y.2=.local->scope.names.lookup y.1=cz .local
 sub:∀x c,cl.lookup x=cz c->X.env.cells.lookup x=cz c
 has:∀y∈scope.names,y.2=.free->∃c,cl.lookup y.1=cz c
 tlen:∀U,(τ U).length=N.length
 tval:∀(U:St) (i:Nat) (x:bE) (v:V),N[i]?=cz x->(τ U)[i]?=cz (cz v)->∃j:Nat,X.N[j]?=cz x/\U[j]?=cz (cz v)/\scope.names.lookup x=cz .free/\(X.env.kindOf x=cz .cell\/X.env.kindOf x=cz .free)
def a0O{scope:gC}(hn:∀y∈scope.names,y.2≠.cell)(h:(mo scope env).names.lookup x=cz .cell\/(mo scope env).names.lookup x=cz .free):∃y∈scope.names,y.1=x/\y.2=.free:=by
 have key:∀k,(mo scope env).names.lookup x=cz k->k=.cell\/k=.free->∃y∈scope.names,y.1=x/\y.2=.free:=λk e hk=>by
  have hm:=cA e;unfold mo at hm;obtain⟨⟨n,k'⟩,hy,e2⟩:=aI.mp hm
  dsimp only at e2
  by_cases hc:(k'==fE&&env.scope.kind==.function&&env.kindOf n==cz .cell)=yn
  ·rw[aB hc]at e2;cases e2
   rw[aC,aC]at hc;exact⟨_,hy,rfl,by simpa using hc.1.1⟩
  ·rw[aJ hc]at e2;cases e2
   rcases hk with rfl|rfl
   ·exact absurd rfl (hn _ hy)
   ·exact⟨_,hy,rfl,rfl⟩
 rcases h with h|h
 ·exact key _ h (.inl rfl)
 ·exact key _ h (.inr rfl)
def a5y{scope:gC}(h:scope.names.lookup x=cz .free):(mo scope env).names.lookup x=cz .cell\/(mo scope env).names.lookup x=cz .free:=by
 have key:∀names:List (bE×i_),names.lookup x=cz .free->
   (names.map λ(n,k)=>if (k==fE&&env.scope.kind==.function&&env.kindOf n==cz .cell) then (n,i_.cell) else (n,k)).lookup x=cz .cell\/
   (names.map λ(n,k)=>if (k==fE&&env.scope.kind==.function&&env.kindOf n==cz .cell) then (n,i_.cell) else (n,k)).lookup x=cz .free:=by
  intro names
  induction names with
  |nil=>intro h;cases h
  |cons z r ih=>
   obtain⟨n,k⟩:=z;intro h;rw[ax]
   dsimp only
   rw[fV]at h;cases hx:x==n with
   |true=>
    rw[hx]at h;have hk:k=.free:=by simpa using h
    subst hk;by_cases hc:(fE==fE&&env.scope.kind==.function&&env.kindOf n==cz .cell)=yn
    ·rw[aB hc,fV,hx];exact .inl rfl
    ·rw[aJ hc,fV,hx];exact .inr rfl
   |false=>
    rw[hx]at h;by_cases hc:(k==fE&&env.scope.kind==.function&&env.kindOf n==cz .cell)=yn
    ·rw[aB hc,fV,hx];exact ih h
    ·rw[aJ hc,fV,hx];exact ih h
 exact key _ h
structure Has (P:bB) (w:bZ) (K:ag) (mg:bE->Option ak) (base:cS) (x:bE) (k:Nat) (ps:List bE) (sp:Sp):Prop where
 ex:∃f fd,FnOk P w K mg base CX0 k f fd ps sp/\Binds K fd ps []/\fU K (.ref f)=yn/\mg x=cz (.ref f)
def Has.up{P:bB}{w:bZ}{K:ag}{mg:bE->Option ak}{base:cS}{x:bE}{j k:Nat}{ps:List bE}{sp:Sp}(h:Has P w K mg base x j ps sp)(l:j<=k):Has P w K mg base x k ps sp:=by
 obtain⟨f,fd,a,b⟩:=h.ex;exact⟨f,fd,a.mono l,b⟩
section
variable {X:Cx}{k:Nat}{ps:List bE}{sp:Sp}{x:bE}{p pos:fW}{e:Expr}{es:List Expr}{t:TA}
def b2Q(h:Has X.prog X.w X.K X.mg X.base x k ps sp)(hr:Room k X.A)(ha:PA X (e::es) t)(hg:Gl X x:=by rfl)(mB:autoParam ((x==("__debug__":bE))=yp) ZV._auto_1)
  (he:au (e::es) X.env=(yp,cK e X.env)::au es X.env:=by rfl) (gT:(cM pos (au es X.env)).any (·.1)=yp:=by rfl):PE X (.Call (.Name x p) (e::es) [] pos) (b7R sp [] E0 t):=by
 obtain⟨f,fd,F,b,kp,m⟩:=h.ex;exact b5M F hr hg m kp b .nil c1c ha mB he gT
end
mutual
def Den(H:Hp):V->bj->Prop
 |v,.none=>v=.non
 |v,.bool b=>v=.bl b
 |v,.int i=>v=.int i
 |v,.str x=>v=.str x
 |v,.list ds=>∃a xs,v=.ref a/\H a=cz (.lst xs)/\DenAll H xs ds
 |v,.tuple ds=>∃a xs,v=.ref a/\H a=cz (.tup xs)/\DenAll H xs ds
 |v,.dict kvs=>kvs=[]/\∃a,v=.ref a/\H a=cz (.dK [])
def DenAll(H:Hp):List V->List bj->Prop
 |xs,[]=>xs=[]
 |xs,d::ds=>∃v r,xs=v::r/\Den H v d/\DenAll H r ds
end
mutual
theorem Den.mono{H H':Hp}(e:Same H H'):∀(d:bj) {v:V},Den H v d->Den H' v d
 |.none,_,h=>by simpa only [Den]using h
 |.bool _,_,h=>by simpa only [Den]using h
 |.int _,_,h=>by simpa only [Den]using h
 |.str _,_,h=>by simpa only [Den]using h
 |.list ds,_,h=>by
  simp only[Den]at h ⊢;obtain⟨a,xs,h1,h2,h3⟩:=h;exact⟨a,xs,h1,e _ _ h2,DenAll.mono e ds h3⟩
 |.tuple ds,_,h=>by
  simp only[Den]at h ⊢;obtain⟨a,xs,h1,h2,h3⟩:=h;exact⟨a,xs,h1,e _ _ h2,DenAll.mono e ds h3⟩
 |.dict _,_,h=>by
  simp only[Den]at h ⊢;obtain⟨h0,a,h1,h2⟩:=h;exact⟨h0,a,h1,e _ _ h2⟩
theorem DenAll.mono{H H':Hp}(e:Same H H'):∀(ds:List bj) {xs:List V},DenAll H xs ds->DenAll H' xs ds
 |[],_,h=>by simpa only [DenAll]using h
 |d::ds,_,h=>by
  simp only[DenAll]at h ⊢;obtain⟨v,r,h1,h2,h3⟩:=h;exact⟨v,r,h1,Den.mono e d h2,DenAll.mono e ds h3⟩
end
def Den.up{H H':Hp}{d:bj}{v:V}(h:Den H v d)(e:Same H H'):Den H' v d:=Den.mono e d h
def DenAll.up{H H':Hp}{ds:List bj}{xs:List V}(h:DenAll H xs ds)(e:Same H H'):DenAll H' xs ds:=DenAll.mono e ds h
section
variable {H:Hp}
def den_none:Den H .non .none:=by simp only[Den]
def den_bool{b:Bool}:Den H (.bl b) (.bool b):=by simp only[Den]
def den_int{i:Int}:Den H (.int i) (.int i):=by simp only[Den]
def den_list{a:av}{xs:List V}{ds:List bj}(h:H a=cz (.lst xs))(q:DenAll H xs ds):Den H (.ref a) (.list ds):=by
 simp only[Den];exact⟨a,xs,rfl,h,q⟩
def den_tup{a:av}{xs:List V}{ds:List bj}(h:H a=cz (.tup xs))(q:DenAll H xs ds):Den H (.ref a) (.tuple ds):=by
 simp only[Den];exact⟨a,xs,rfl,h,q⟩
def denAll_nil:DenAll H [] []:=by simp only[DenAll]
def denAll_cons{v:V}{d:bj}{xs:List V}{ds:List bj}(h:Den H v d)(q:DenAll H xs ds):DenAll H (v::xs) (d::ds):=by
 simp only[DenAll];exact⟨v,xs,rfl,h,q⟩
def Den.list_inv{v:V}{ds:List bj}(h:Den H v (.list ds)):∃a xs,v=.ref a/\H a=cz (.lst xs)/\DenAll H xs ds:=by simpa only [Den]using h
def Den.tup_inv{v:V}{ds:List bj}(h:Den H v (.tuple ds)):∃a xs,v=.ref a/\H a=cz (.tup xs)/\DenAll H xs ds:=by simpa only [Den]using h
def Den.int_inv{v:V}{i:Int}(h:Den H v (.int i)):v=.int i:=by simpa only [Den]using h
def DenAll.cons_inv{xs:List V}{d:bj}{ds:List bj}(h:DenAll H xs (d::ds)):∃v r,xs=v::r/\Den H v d/\DenAll H r ds:=by simpa only [DenAll]using h
def DenAll.nil_inv{xs:List V}(h:DenAll H xs []):xs=[]:=by simpa only [DenAll]using h
theorem DenAll.length:∀{ds:List bj} {xs:List V},DenAll H xs ds->xs.length=ds.length
 |[],_,h=>by rw[h.nil_inv];rfl
 |d::ds,_,h=>by
  obtain⟨v,r,rfl,_,h⟩:=h.cons_inv;rw[aS,aS,DenAll.length h]
theorem DenAll.get:∀{ds:List bj} {xs:List V} {i:Nat} {d:bj},DenAll H xs ds->ds[i]?=cz d->∃v,xs[i]?=cz v/\Den H v d
 |[],_,i,d,_,e=>by simp at e
 |d0::ds,_,0,d,h,e=>by
  obtain⟨v,r,rfl,h1,_⟩:=h.cons_inv;have:d0=d:=by simpa using e
  subst this;exact⟨v,rfl,h1⟩
 |d0::ds,_,i+1,d,h,e=>by
  obtain⟨v,r,rfl,_,h1⟩:=h.cons_inv;obtain⟨u,h2,h3⟩:=DenAll.get (i:=i) h1 (by simpa using e);exact⟨u,by simpa using h2,h3⟩
def DenAll.getV{ds:List bj}{xs:List V}{i:Nat}{v:V}(h:DenAll H xs ds)(e:xs[i]?=cz v):∃d,ds[i]?=cz d/\Den H v d:=by
 have hi:=(aM.mp e).1;rw[h.length]at hi;obtain⟨u,h1,h2⟩:=h.get (ab hi);rw[e]at h1;cases h1
 exact⟨_,ab hi,h2⟩
theorem DenAll.append:∀{ds:List bj} {xs:List V} {es:List bj} {ys:List V},DenAll H xs ds->DenAll H ys es->DenAll H (xs++ys) (ds++es)
 |[],_,_,_,h,q=>by rw[h.nil_inv];exact q
 |d::ds,_,_,_,h,q=>by
  obtain⟨v,r,rfl,h1,h2⟩:=h.cons_inv;exact denAll_cons h1 (DenAll.append h2 q)
end
mutual
theorem Den.reads{P:bB}{w:bZ}{H:Hp}{h:cS}(ok:HOk P w H h):∀(d:bj) {v:V} {u:ak},d.canLay0=yn->Den H v d->RelV v u->∃as,Reads h u d as
 |.none,v,u,_,q,r=>by
  simp only[Den]at q;subst q;cases (show u=bw from r)
  exact⟨_,.none⟩
 |.bool b,v,u,_,q,r=>by
  simp only[Den]at q;subst q;cases (show u=mE b from r)
  exact⟨_,.bool b⟩
 |.int i,v,u,_,q,r=>by
  simp only[Den]at q;subst q;obtain⟨t,rfl⟩:=r;exact⟨_,.int i t⟩
 |.str x,v,u,_,q,r=>by
  simp only[Den]at q;subst q;obtain⟨t,rfl⟩:=r;exact⟨_,.str x t⟩
 |.list ds,v,u,hl,q,r=>by
  simp only[Den]at q;obtain⟨a,xs,rfl,h1,h2⟩:=q;cases (show u=bM a from r)
  obtain⟨z,its,n,rv,e⟩:=ok a _ h1;obtain⟨as,ra⟩:=DenAll.reads ok ds hl h2 rv;exact⟨_,.list e rfl rfl (by simpa using ra)⟩
 |.tuple ds,v,u,hl,q,r=>by
  simp only[Den]at q;obtain⟨a,xs,rfl,h1,h2⟩:=q;cases (show u=bM a from r)
  obtain⟨z,its,rv,o,e,c,n,d⟩:=ok a _ h1;obtain⟨as,ra⟩:=DenAll.reads ok ds hl h2 rv;exact⟨_,.tuple e c d (by simpa using ra)⟩
 |.dict _,_,_,hl,_,_=>nomatch hl
theorem DenAll.reads{P:bB}{w:bZ}{H:Hp}{h:cS}(ok:HOk P w H h):∀(ds:List bj) {xs:List V} {us:List ak},aY ds=yn->DenAll H xs ds->Vals xs us->∃as,iZ h us ds as
 |[],xs,us,_,q,r=>by
  simp only[DenAll]at q;subst q;cases r
  exact⟨_,.nil⟩
 |d::ds,xs,us,hl,q,r=>by
  have sC:d.canLay0=yn/\aY ds=yn:=by simpa[aY]using hl
  simp only[DenAll]at q;obtain⟨v,rs,rfl,h1,h2⟩:=q;cases r with
  |cons r1 r2=>
   obtain⟨as,ra⟩:=Den.reads ok d sC.1 h1 r1;obtain⟨bs,rb⟩:=DenAll.reads ok ds sC.2 h2 r2;exact⟨_,.cons ra rb⟩
end
section
variable {X:Cx}
def tyD:bj->String
 |.int _=>"int"
 |.bool _=>"bool"
 |.list _=>"list"
 |.tuple _=>"tuple"
 |.none=>"NoneType"
 |.str _=>"str"
 |.dict _=>"dict"
def Den.ty{K:ag}{H:Hp}{v:V}:∀{d:bj},Den H v d->TyOf K H v (.type (tyD d))
 |.none,h=>by simp only[Den]at h;subst h;exact .non
 |.bool _,h=>by simp only[Den]at h;subst h;exact .bl _
 |.int _,h=>by simp only[Den]at h;subst h;exact .int _
 |.str _,h=>by simp only[Den]at h;subst h;exact .str _
 |.list _,h=>by simp only[Den]at h;obtain⟨a,xs,rfl,h1,_⟩:=h;exact .lst h1
 |.tuple _,h=>by simp only[Den]at h;obtain⟨a,xs,rfl,h1,_⟩:=h;exact .tup h1
 |.dict _,h=>by simp only[Den]at h;obtain⟨_,a,rfl,h1⟩:=h;exact .dK h1
def Inv.sysBelow(I:Inv X pins U H s):dr<s.heap.objs.size:=by
 have h:bV<s.heap.objs.size:=(I.mod.glob.keeps I.bk).lt;exact jG (by decide) h
end
def k8(h:H p=xn)(o:HO):Same H (upd H p o):=λb u q=>by rw[c7 (i6 q h)];exact q
def a2W(e:Same H H')(h:H p=xn)(o:HO):Same H (upd H' p o):=λb u q=>by rw[c7 (i6 q h)];exact e b u q
def PTs(X:Cx)(ifs:List Expr)(tt:TT):Prop:=
 ∀(pins:List (av×fY)) (s:ar) (U:St) (H:Hp) (Q:Bool->Hp->Prop),Inv X pins U H s->tt U H Q->
  aX (aV X.prog X.w) X.A (forIn ifs yn λc r=>if r=yn then do let ok <-CJ c X.env (cK c X.env);pure (fH ok) else pure (fH r)) (TP X pins U Q) X.xe s
def c2O:TT:=λ_ H Q=>Q yn H
def a9u:PTs X [] c2O:=λ_ _ U H _ I h=>wpAny_tests_nil ⟨H,I,h⟩
section
variable {prog:bB}{w:bZ}{A:bS}{R:Result->ar->Prop}{s:ar}
def a4o(I:Nat->ar->Prop)
  (turn:∀n s,I n s->aX (aV prog w) A (ve it) (λr s₁=>match r with
   |none=>R (.ok .next) s₁
   |some v=>aX (aV prog w) A (mN target it v) (λ_ s₂=>aX (aV prog w) A (lG target env v) (λ_ s₃=>
     aX (aV prog w) A (forIn ifs yn λc r=>if r=yn then do let ok <-CJ c env (cK c env);pure (fH ok) else pure (fH r)) (λok pX=>
     if ok=yn then aX (aV prog w) A (cK elt env) (λx s₄=>
      aX (aV prog w) A (call (.builtin "list.append") [acc,x]) (λ_ s₅=>∃m,m<n/\I m s₅) (λ_ _=>False) s₄) (λ_ _=>False) pX
     else ∃m,m<n/\I m pX)
     (λ_ _=>False) s₃) (λ_ _=>False) s₂) (λ_ _=>False) s₁) (λ_ _=>False) s)
  (n:Nat) (h:I n s) :
  gX (aV prog w) A (.compLoop (.ListComp elt [⟨target,iter,ifs,0⟩] scope pos) 0 it acc env) R s:=by
 refine codeAny_loop rfl I (λn s hI=>?_) n h;show aX _ _ ((compTurn (.ListComp elt [⟨target,iter,ifs,0⟩] scope pos) 0 it acc env).onRaise (λx=>do noteFrame x env;theTreesLotGoes x)) _ _ s;refine wpAny_noted ?_;rw[compTurn_list];refine ae (lC (ae (dU (turn n s hI) (λr s₁ h₁=>?_) λ_ _ h'=>h'.elim)));cases r with
 |none=>exact aE h₁
 |some v=>
  refine ae (dU h₁ (λ_ s₂ h₂=>?_) λ_ _ h'=>h'.elim);refine ae (dU h₂ (λ_ s₃ h₃=>ae (dU h₃ (λok pX oW=>?_) λ_ _ h'=>h'.elim)) λ_ _ h'=>h'.elim);cases ok with
  |false=>
   rw[aJ bU]at oW;exact ae (aE (aE ⟨rfl,oW⟩))
  |true=>
   rw[aB rfl]at oW;exact ae (ae (dU oW (λx s₄ h₄=>ae (dU h₄ (λ_ s₅ h₅=>aE (aE ⟨rfl,h₅⟩)) λ_ _ h'=>h'.elim)) λ_ _ h'=>h'.elim))
end
def a5z(wi:TI)(g:TG)(tt:TT)(te:TE)(τ:St->St):TE:=λU H Q=>wi U H λJ H1=>∀D,H1 D=xn->∃W:Nat->Nat->List V->St->Hp->Prop,(∃m,W 0 m [] (τ U) (upd H1 D (.lst [])))/\
 ∀i m ys U' H',W i m ys U' H'->(J.stop i H'/\Q (.ref D) H')\/
  (J.go i H'/\∃(N:V->St->Hp->Prop) (NO:St->Hp->Prop),(∀y U3 H4,N y U3 H4->H4 D=cz (.lst ys)/\ys.length<aZ/\∃m',m'<m/\W (i+1) m' (ys++[y]) U3 (upd H4 D (.lst (ys++[y]))))/\
   (∀U3 H4,NO U3 H4->∃m',m'<m/\W (i+1) m' ys U3 H4)/\∀x H2,J.yld i H' x H2->g x U' H2 λU3 H3=>tt U3 H3 λb H4=>if b=yn then te U3 H4 λy H5=>N y U3 H5 else NO U3 H4)
section
variable {X:Cx}{N:List bE}{scope:gC}{cl:List (bE×av)}{τ:St->St}{elt tg iter:Expr}{ifs:List Expr}{pos:fW}{wi:TI}{g:TG}{tt:TT}{te:TE}
def a4H(hc:X.calm=yn)(hi:PI X tg iter wi)(C:CompIn X N scope cl τ)(hg:∀Cl s H fp,PG (B5 X N scope cl Cl s H fp) tg g)(ht:∀Cl s H fp,PTs (B5 X N scope cl Cl s H fp) ifs tt)(he:∀Cl s H fp,PE (B5 X N scope cl Cl s H fp) elt te)
  (I:Inv X pins U H s) (h:a5z wi g tt te τ U H R) {PP:ak->av->Result->ar->Prop}
  (EA:∀D Cl Hn s' o m,Inv X pins U Hn s'->R (.ref D) Hn->a4j X pins Hn Cl->s'.heap.get? Cl=cz o->(∀v,o.data≠.cell v)->(∀h':cS,h'.get? Cl=cz o->h'.Ns Cl m)->PP (.ref D) Cl (.ok .next) s') :
  aX (aV X.prog X.w) X.A (cK iter X.env) (λx s₁=>aX (aV X.prog X.w) X.A (pyIter x) (λit s₂=>aX (aV X.prog X.w) X.A (newList []) (λacc s₃=>
   aX (aV X.prog X.w) X.A (newFunctionEnv scope X.env.globals cl [] X.env.qual xn .none (cz X.env)) (λwW s₄=>
    gX (aV X.prog X.w) X.A (.compStart (.ListComp elt [⟨tg,iter,ifs,0⟩] scope pos) 0 it acc {wW with scope:=mo scope X.env}) (PP acc wW.locals) s₄) X.xe s₃) X.xe s₂) X.xe s₁) X.xe s:=by
 refine thn (hi pins s U H _ I h) λx s1 h1=>thn h1 λyA s2 h2=>?_
 obtain⟨it,fp,tn,J,H2,rfl,I2,T,k_,f2,q⟩:=h2;refine iV (wpAny_newFunctionEnv C.ncell (by intro y hy;simp at hy) (λh₁ oG nc=>?_) C.kind)
 dsimp only at oG nc ⊢
 generalize zR:s2.heap.push {cls:=.type "list",dict:=xn,data:=.seq ([]:List ak).toArray}=G2 at oG nc ⊢;have hC:G2.objs.size=s2.heap.objs.size+1:=by rw[<-zR,cS.size_push]
 have BB:s2.heap.objs.size≠G2.objs.size:=by rw[hC];exact bP (Fh _)
 have t_:s2.heap.objs.size<=G2.objs.size:=by rw[hC];exact w_ _
 have below:∀b,b<s2.heap.objs.size->b≠G2.objs.size:=λb hb=>by rw[hC];exact bP (Nat.lt_succ_of_lt hb)
 have old:∀b o,s2.heap.get? b=cz o->h₁.get? b=cz o:=λb o e=>nc.extBut b o (below b (aU e)) (aG _ (zR▸aG _ e))
 have oJ:h₁.get? s2.heap.objs.size=cz {cls:=.type "list",dict:=xn,data:=.seq ([]:List ak).toArray}:=nc.extBut _ _ BB (aG _ (zR▸bh _ rfl));have zY:∀b∈fp,b<s2.heap.objs.size:=λb hb=>by
  obtain⟨o,e,_⟩:=T.obj 0 _ k_ b hb;exact aU e
 have BA:H2 s2.heap.objs.size=xn:=I2.hok.fresh (ay _);have EH:H2 G2.objs.size=xn:=I2.hok.fresh t_;generalize xM:G2.objs.size=Cl at *;have Cm:∀b∈frs X.stack,b<s2.heap.objs.size:=λb hb=>by
  rcases aD.mp (I2.stkSub b hb) with e|hb
  ·rw[e];exact I2.lt
  ·obtain⟨_,o,ho,_⟩:=I2.funs.mem hb;exact aU ho
 have ym:(B5 X N scope cl Cl s2 H2 fp).Ok:=by
  refine⟨I2.ok.mod,C.kind,I2.ok.glob,I2.ok.blt,t_,λx y c e1 e2=>I2.ok.inj x y c (C.sub x c e1) (C.sub y c e2),λx hx=>?_,λx c hx _=>(nomatch hx),λz=>I2.ok.hd z,I2.ok.frames,.inl rfl,λb hb=>⟨below b (zY b hb),λx c e=>(f2 b hb).2.2.2.2.1 x c (C.sub x c e)⟩,
   I2.bs,cF I2.ok.bsz I2.sz,λb o e hb=>?_,λb hb z=>?_,I2.stack,I2.stkFree,I2.tabs⟩
  ·obtain⟨y,hy,rfl,ey⟩:=a0O C.ncell hx;exact C.has y hy ey
  ·rcases (f2 b hb).2.2.2.1 with z|z
   ·exact I2.ok.noex b o e z
   ·exact absurd (bo (aU e) (cF I2.ok.bsz z)) (dR _)
  ·rcases aD.mp (I2.stkSub b z) with e|e
   ·exact (f2 b hb).2.1 e
   ·exact (f2 b hb).2.2.1 e
 have I4:Inv (B5 X N scope cl Cl s2 H2 fp) pins (τ U) (upd H2 s2.heap.objs.size (.lst [])) {s2 with heap:=h₁,toks:=s2.toks+([]:List (bE×ak)).length}:=by
  have lc:=I2.loc;obtain⟨m,hn,hl⟩:=lc;refine⟨ym,rfl,I2.bare,Un.laid old (ay _) BA,⟨_,oG,λi x v e1 e2 e3=>?_⟩,λx c e=>?_,?_,λx c e=>?_,λp hp=>?_,I2.hok.laid old (ay _) ⟨cG _,[],_,.nil,oJ⟩,C.tlen U⟩
  ·obtain⟨j,j1,j2,j3,j4⟩:=C.tval U i x v e1 e2;have kx:(mo scope X.env).names.lookup x=cz .cell\/(mo scope X.env).names.lookup x=cz .free:=a5y j3;obtain⟨y,hy,EL,ey⟩:=a0O C.ncell kx;obtain⟨c,uM⟩:=C.has y hy ey;rw[EL]at uM;have wx:=C.sub x c uM;have hv:Vis X.env.scope x:=.inr j4;obtain⟨u,ru,lk⟩:=hl j x v j1 j2 hv;refine⟨u,ru,?_⟩;rcases lk with⟨k,_⟩|⟨k,c',e',z⟩
   ·rcases j4 with j4|j4
    ·rw[j4]at k;cases k
    ·rw[j4]at k;cases k
   ·rw[wx]at e';cases e'
    obtain⟨o,ho,hd⟩:=z;exact .inr ⟨kx,c,uM,⟨o,old c o ho,hd⟩⟩
  ·obtain⟨v,o,ho,hd⟩:=I2.cell x c (C.sub x c e);exact⟨v,o,old c o ho,hd⟩
  ·show upd H2 s2.heap.objs.size (.lst []) Cl=xn;rw[c7 (cR BB)];exact EH
  ·have n:=I2.freeC x c (C.sub x c e);obtain⟨v,o,ho,hd⟩:=I2.cell x c (C.sub x c e);rw[c7 (bP (aU ho))];exact n
  ·obtain⟨e,n,ne,nf,d⟩:=I2.pin p hp;refine⟨old _ _ e,by rw[c7 (bP (aU e))];exact n,below _ (aU e),λz=>?_,d⟩;rcases aD.mp (I2.stkSub p.1 z) with e'|e'
   ·exact ne e'
   ·exact nf e'
 have oA:∀{H':Hp},(∀b∈fp,H' b=xn)->∀b∈fp,a4j (B5 X N scope cl Cl s2 H2 fp) pins H' b:=λhn b hb=>
  ⟨hn b hb,below b (zY b hb),ym.exfs b hb,.inl hb,(ym.exf b hb).2,(f2 b hb).2.2.2.2.2⟩
 obtain⟨W,⟨m0,w0⟩,turn⟩:=q s2.heap.objs.size BA;have loop:∀s₃:ar,s₃={s2 with heap:=h₁,toks:=s2.toks+([]:List (bE×ak)).length}->
   gX (aV X.prog X.w) X.A (.compLoop (.ListComp elt [⟨tg,iter,ifs,0⟩] scope pos) 0 (.ref it) (.ref s2.heap.objs.size) (compEnvC scope cl Cl X.env)) (PP (.ref s2.heap.objs.size) Cl) s₃:=by
  rintro s₃ rfl;refine a4o (λn s'=>∃i ys U' H',Inv (B5 X N scope cl Cl s2 H2 fp) pins U' H' s'/\tn i s'.heap/\(∀b∈fp,H' b=xn)/\W i n ys U' H') ?_ m0
   ⟨0,[],τ U,_,I4,T.keep _ _ _ k_ λb hb o e=>old b o e,λb hb=>by rw[c7 (bP (zY b hb))];exact (f2 b hb).1,w0⟩
  rintro n s3 ⟨i,ys,U3,H3,I3,jA,wO,w3⟩;rcases turn i n ys U3 H3 w3 with⟨stop,qn⟩|⟨go,NN,NO,hN,hO,step⟩
  ·refine thn (T.done (B5 X N scope cl Cl s2 H2 fp) rfl rfl rfl hc i pins s3 U3 H3 _ I3 (oA wO) jA stop) λr s4 ⟨hr,I5⟩=>?_
   subst hr;have lc:=I5.loc;obtain⟨m,hn,_⟩:=lc;obtain⟨o,es,ep,ho,hd,jK⟩:=hn;have J5:Inv X pins U H3 s4:=I2.call' (ch:=fp) I5.os I5.base I5.hok I5.bare λb hb=>⟨(f2 b hb).2.2.2.1,(f2 b hb).2.1,(f2 b hb).2.2.2.2.1,(f2 b hb).2.2.2.2.2⟩
   refine EA _ Cl H3 s4 o m J5 qn (I2.fpOk t_ I5.free) ho (λv z=>by rw[hd]at z;cases z) λh' e=>⟨o,es,ep,e,hd,jK⟩
  ·refine thn (T.item (B5 X N scope cl Cl s2 H2 fp) rfl rfl rfl hc i pins s3 U3 H3 _ I3 (oA wO) jA go) λr s4 ⟨u,hr,h4⟩=>?_
   subst hr;refine thn h4 λ_ s5 ⟨x,H5,I5,r5,y5,pY,zW⟩=>?_
   have Ao:=I5.pinned (oA zW) (T.obj _ _ pY);refine thn (hg Cl s2 H2 fp _ s5 U3 H5 x u _ Ao r5 (step x H5 y5)) λ_ s6 ⟨U6,H6,I6,q6⟩=>?_
   refine thn (ht Cl s2 H2 fp _ s6 U6 H6 _ I6 q6) λok Cp ⟨Fn,x_,xl⟩=>?_
   cases ok with
   |false=>
    rw[aJ bU]at xl ⊢;obtain⟨m',hm,w7⟩:=hO _ _ xl;refine⟨m',hm,i+1,ys,U6,_,x_.unpinned,T.keep _ _ _ pY λb hb o e=>(x_.pin (b,o) (ah _ (ah _ (C2 hb e)))).1,λb hb=>?_,w7⟩;obtain⟨o,e,d⟩:=T.obj _ _ pY b hb;exact (x_.pin (b,o) (ah _ (ah _ (C2 hb e)))).2.1
   |true=>
    rw[aB rfl]at xl ⊢;refine thn (he Cl s2 H2 fp _ Cp U6 Fn _ x_ xl) λyv s7 ⟨y,H7,I7,r7,q7⟩=>?_
    obtain⟨Ct,Cs,m',hm,w7⟩:=hN _ _ _ q7;refine thn (Y7 (X:=B5 X N scope cl Cl s2 H2 fp) _ s7 U6 H7 (.ref s2.heap.objs.size) [y] (.ref s2.heap.objs.size) [yv] (λ_ H8=>H8=upd H7 s2.heap.objs.size (.lst (ys++[y]))) I7 rfl (.cons r7 .nil)
     ⟨_,ys,y,rfl,rfl,Ct,Cs,rfl⟩) λ_ s8 ⟨_,H8,I8,_,e8⟩=>?_
    subst e8;refine⟨m',hm,i+1,ys++[y],U6,_,I8.unpinned,T.keep _ _ _ pY λb hb o e=>(I8.pin (b,o) (ah _ (ah _ (C2 hb e)))).1,λb hb=>?_,w7⟩;obtain⟨o,e,d⟩:=T.obj _ _ pY b hb;exact (I8.pin (b,o) (ah _ (ah _ (C2 hb e)))).2.1
 have kO:tn 0 h₁:=T.keep _ _ _ k_ λb hb o e=>old b o e
 exact codeAny_compStart_list (loop _ rfl) (T.self X.A 0 {s2 with heap:=h₁,toks:=s2.toks+([]:List (bE×ak)).length} _ _ kO (loop _ rfl))
end
def w9(env:oQ):List (bE×i_)->List (bE×av)->List (bE×av)
 |[],cs=>cs
 | (n,k)::r,cs=>w9 env r (if k==.free then (n,(env.cells.lookup n).getD 0)::cs else cs)
theorem W1{env:oQ}:∀(names:List (bE×i_)) (cs:List (bE×av)),(∀y∈names,y.2=.free->∃c,env.cells.lookup y.1=cz c)->
  (forIn names cs λ(x:bE×i_) (cs:List (bE×av))=>(if x.2==.free then do let a <-cellOf env x.1;pure (fH ((x.1,a)::cs)) else pure (fH cs):Af (ForInStep (List (bE×av)))))=pure (w9 env names cs)
 |[],cs,_=>by rw[qQ];rfl
 | (n,k)::r,cs,h=>by
  rw[pQ]
  dsimp only
  by_cases hk:(k==fE)=yn
  ·obtain⟨c,hc⟩:=h (n,k) aL (by simpa using hk);rw[aB hk];have e:cellOf env n=pure c:=by unfold cellOf;rw[hc]
   rw[e];have:=W1 r ((n,c)::cs) λy hy=>h y (aw _ hy)
   have e2:w9 env ((n,k)::r) cs=w9 env r ((n,c)::cs):=by
    show w9 env r (if k==.free then (n,(env.cells.lookup n).getD 0)::cs else cs)=_;rw[aB hk,hc];rfl
   rw[e2,<-this];simp only[pure_bind]
  ·rw[aJ hk];have:=W1 r cs λy hy=>h y (aw _ hy)
   have e2:w9 env ((n,k)::r) cs=w9 env r cs:=by
    show w9 env r (if k==.free then (n,(env.cells.lookup n).getD 0)::cs else cs)=_;rw[aJ hk]
   rw[e2,<-this];simp only[pure_bind]
def a7U{scope:gC}{env:oQ}(h:∀y∈scope.names,y.2=.free->∃c,env.cells.lookup y.1=cz c):pL scope env=pure (w9 env scope.names []):=by
 have:=W1 scope.names [] h;rw[<-this];unfold pL;simp
theorem a0v{env:oQ}:∀(names:List (bE×i_)) (cs:List (bE×av)),(∀y∈names,y.2=.free->∃c,env.cells.lookup y.1=cz c)->(∀p∈cs,env.cells.lookup p.1=cz p.2)->
  (∀p∈w9 env names cs,env.cells.lookup p.1=cz p.2)/\(∀p∈cs,p∈w9 env names cs)/\∀y∈names,y.2=.free->∃c,(y.1,c)∈w9 env names cs
 |[],cs,_,hc=>⟨hc,λ_ h=>h,λy hy=>(nomatch hy)⟩
 | (n,k)::r,cs,h,hc=>by
  by_cases hk:(k==fE)=yn
  ·obtain⟨c,e⟩:=h (n,k) aL (by simpa using hk);have e2:w9 env ((n,k)::r) cs=w9 env r ((n,c)::cs):=by
    show w9 env r (if k==.free then (n,(env.cells.lookup n).getD 0)::cs else cs)=_;rw[aB hk,e];rfl
   rw[e2];obtain⟨a,b,d⟩:=a0v r ((n,c)::cs) (λy hy=>h y (aw _ hy)) λp hp=>by
    rcases aD.mp hp with z|z
    ·rw[z];exact e
    ·exact hc p z
   refine⟨a,λp hp=>b p (aw _ hp),λy hy hf=>?_⟩;rcases aD.mp hy with z|z
   ·rw[z];exact⟨c,b _ aL⟩
   ·exact d y z hf
  ·have e2:w9 env ((n,k)::r) cs=w9 env r cs:=by
    show w9 env r (if k==.free then (n,(env.cells.lookup n).getD 0)::cs else cs)=_;rw[aJ hk]
   rw[e2];obtain⟨a,b,d⟩:=a0v r cs (λy hy=>h y (aw _ hy)) hc;refine⟨a,b,λy hy hf=>?_⟩;rcases aD.mp hy with z|z
   ·rw[z]at hf;exact absurd (by simpa using hf) hk
   ·exact d y z hf
theorem a0i:∀{l:List (bE×av)},(x,c)∈l->∃c',l.lookup x=cz c'
 |[],h=>nomatch h
 | (y,d)::l,h=>by
  rw[fV];cases e:x==y with
  |true=>exact⟨d,rfl⟩
  |false=>
   rcases aD.mp h with z|z
   ·cases z;simp at e
   ·exact a0i z
def K5(scope:gC)(okind:bE->Option i_)(ys:List bE)(js:List Nat)(XN:List bE):Bool:=
 scope.kind==.function&&scope.names.all (λy=>y.2 !=.cell&&(y.2 !=.local||scope.names.lookup y.1==cz .local)&&(y.2 !=.free||(okind y.1==cz .cell||okind y.1==cz .free))) &&
 ys.length==js.length&&(ys.zip js).all λp=>XN[p.2]?==cz p.1&&scope.names.lookup p.1==cz .free&&(okind p.1==cz .cell||okind p.1==cz .free)
def a0w(tn:List bE)(js:List Nat):St->St:=λU=>aT tn.length xn++js.map λj=>(U[j]?).getD xn
def a4I{X:Cx}{scope:gC}(ok:X.Ok)(h:K5 scope X.env.kindOf ys js X.N=yn):CompIn X (tn++ys) scope (w9 X.env scope.names []) (a0w tn js):=by
 unfold K5 at h;rw[aC,aC,aC,eK,eK]at h;obtain⟨⟨⟨hk,ha⟩,hl⟩,hz⟩:=h;have mQ:∀y∈scope.names,y.2≠.cell:=λy hy e=>by
  have:=ha y hy;rw[e]at this;simp at this
 have zg:∀y∈scope.names,y.2=.local->scope.names.lookup y.1=cz .local:=λy hy e=>by
  have:=ha y hy;rw[e]at this;simpa using this
 have nN:∀y∈scope.names,y.2=.free->∃c,X.env.cells.lookup y.1=cz c:=λy hy e=>by
  have:=ha y hy;rw[e]at this;refine ok.has y.1 ?_;simpa using this
 obtain⟨a,_,d⟩:=a0v scope.names [] nN λp hp=>(nomatch hp)
 refine⟨a7U nN,by simpa using hk,mQ,zg,λx c e=>a _ (cA e),λy hy e=>?_,λU=>?_,λU i x v h1 h2=>?_⟩
 ·obtain⟨c,hc⟩:=d y hy e;exact a0i hc
 ·have:ys.length=js.length:=by simpa using hl
  unfold a0w;simp[this]
 ·unfold a0w at h2;by_cases hi:i<tn.length
  ·rw[dw (by simpa using hi),sR]at h2
   split at h2<;>cases h2
  ·rw[cu (by simpa using hi),gn,aQ]at h2;rw[cu (by lia)]at h1;cases hj:js[i-tn.length]? with
   |none=>rw[hj]at h2;cases h2
   |some j=>
    rw[hj]at h2;have h3:(U[j]?).getD xn=cz v:=by simpa using h2
    have iW:(x,j)∈ys.zip js:=by
     have hlen:=(aM.mp h1).1;have Bf:=(aM.mp hj).1;rw[c_];refine⟨i-tn.length,?_⟩;rw[rm];exact⟨h1,hj⟩
    have:=hz _ iW;rw[aC,aC,lA]at this;obtain⟨⟨e1,e2⟩,e3⟩:=this;refine⟨j,by simpa using e1,?_,by simpa using e2,by simpa using e3⟩;cases q:U[j]? with
    |none=>rw[q]at h3;cases h3
    |some o=>rw[q]at h3;have:o=cz v:=h3;rw[this]
section
variable {X:Cx}{tn ys:List bE}{js:List Nat}{scope:gC}{elt tg iter:Expr}{ifs:List Expr}{pos:fW}{wi:TI}{g:TG}{tt:TT}{te:TE}
def a2X(hc:X.calm=yn)(hi:PI X tg iter wi)(C:K5 scope X.env.kindOf ys js X.N=yn)(hg:∀cl Cl s H fp,PG (B5 X (tn++ys) scope cl Cl s H fp) tg g)(ht:∀cl Cl s H fp,PTs (B5 X (tn++ys) scope cl Cl s H fp) ifs tt)(he:∀cl Cl s H fp,PE (B5 X (tn++ys) scope cl Cl s H fp) elt te)
  (hs:∀x,dM iter X.env x=pure x:=by intro _;rfl):PE X (.ListComp elt [⟨tg,iter,ifs,0⟩] scope pos) (a5z wi g tt te (a0w tn js)):=by
 intro pins s U H Q I h;have C:=a4I (tn:=tn) I.ok C;rw[eval_ListComp];refine yd (use:=xn) rfl hs C.clos C.kind C.names (a4H hc hi C (hg _) (ht _) (he _) I h (PP:=λacc Cl=>compPost (aV X.prog X.w) X.A X.xe xn (EP X pins U Q) acc Cl) ?_);intro D Cl Hn s' o m I' hq F ho hd rL;refine⟨m,rL _ ho,λh' jf=>⟨.ref D,Hn,?_,rfl,hq⟩⟩;exact I'.turned (t':=s'.toks) (λb ob hb e=>(jf.2 b hb).trans e) F.1 F.2.1 F.2.2.2.1 F.2.2.2.2.1 F.2.2.2.2.2
def a1W{py sW:fW}(hc:X.calm=yn)(hN:X.N.Nodup)(hy:X.N[i]?=cz y)(hx:Loc X.env.scope y)(hi:PI X tg iter wi)(C:K5 scope X.env.kindOf ys js X.N=yn)
  (hg:∀cl Cl s H fp,PG (B5 X (tn++ys) scope cl Cl s H fp) tg g) (ht:∀cl Cl s H fp,PTs (B5 X (tn++ys) scope cl Cl s H fp) ifs tt) (he:∀cl Cl s H fp,PE (B5 X (tn++ys) scope cl Cl s H fp) elt te)
  (oF:eR (.ListComp elt [⟨tg,iter,ifs,0⟩] scope pos) (cz (.Name y py)) sW.line X.env=pure yn:=by rfl) (hs:∀x,dM iter X.env x=pure x:=by intro _;rfl)
  (hf:autoParam (X.fn y=yn\/X.env.scope.names.lookup y=cz .local) ZZ._auto_1) :
  PS X (.Assign [.Name y py] (.ListComp elt [⟨tg,iter,ifs,0⟩] scope pos) sW) (b8y (a5z wi g tt te (a0w tn js)) (D0 i)):=by
 intro pins s U H D I h;have C:=a4I (tn:=tn) I.ok C;rw[exec_Assign_Name_used _ _ _ _ oF];refine ae (lC (ae ?_));show aX _ X.A (do let _ <-comprehension (.ListComp elt [⟨tg,iter,ifs,0⟩] scope pos) scope X.env _ (newList []) yp (cK iter X.env) (cz (lG (.Name y py) X.env))) _ _ s;refine ae (dU (yd (use:=cz (lG (.Name y py) X.env)) (Q:=λ_ s'=>SP X pins D .next s') rfl hs C.clos C.kind C.names
  (a4H hc hi C (hg _) (ht _) (he _) I h (PP:=λacc Cl=>compPost (aV X.prog X.w) X.A X.xe (cz (lG (.Name y py) X.env)) (λ_ s'=>SP X pins D .next s') acc Cl) ?_)) (λ_ s' hq=>aE (aE hq)) λ_ _ e=>e)
 intro Dl Cl Hn s' o m I' hq F ho hd rL;have I1:=I'.pinned (fp:=[Cl]) (λb hb=>by rw[aq.mp hb];exact F) (λb hb=>by rw[aq.mp hb];exact⟨o,ho,hd⟩);show aX _ X.A (lG (.Name y py) X.env (.ref Dl)) _ _ _;refine wpAny_assign_Name (a0K I1 hN hy hx (v:=.ref Dl) rfl (λs2 I2=>?_) hf);have e2:=(I2.pin (Cl,o) (ah _ (ah _ (C2 (aq.mpr rfl) ho)))).1;refine⟨m,rL _ e2,λh' jf=>⟨U.set i (cz (.ref Dl)),Hn,?_,hq⟩⟩;exact I2.unpinned.turned (t':=s2.toks) (λb ob hb e=>(jf.2 b hb).trans e) F.1 F.2.1 F.2.2.2.1 F.2.2.2.2.1 F.2.2.2.2.2
end
end L2
namespace VS
open PySem PySem.Spec L2
abbrev D:=bj
mutual
def B6:D->Bool
 |.int _=>yn
 |.tuple ds=>o7 ds
 |.none|.bool _|.str _|.list _|.dict _=>yp
def o7:List D->Bool
 |[]=>yn
 |d::ds=>B6 d&&o7 ds
end
mutual
def hashD:D->Int
 |.int i=>hashInt i
 |.tuple ds=>reduceHash (eP (z8 ds))
 |.none|.bool _|.str _|.list _|.dict _=>0
def z8:List D->List Int
 |[]=>[]
 |d::ds=>hashD d::z8 ds
end
mutual
def t9:D->Nat
 |.int _=>1
 |.tuple ds=>P4 ds+1
 |.none|.bool _|.str _|.list _|.dict _=>0
def P4:List D->Nat
 |[]=>0
 |d::ds=>t9 d+P4 ds
end
mutual
theorem W2:∀d:D,B6 d=yn->d.canLay0=yn
 |.int _,_=>by simp only[cE]
 |.tuple ds,h=>by
  simp only[B6]at h;simp only[cE];exact a1X ds h
 |.none,h|.bool _,h|.str _,h|.list _,h|.dict _,h=>by simp only[B6]at h;cases h
theorem a1X:∀ds:List D,o7 ds=yn->aY ds=yn
 |[],_=>by simp only[aY]
 |d::ds,h=>by
  simp only[o7,aC]at h;simp only[aY,aC];exact⟨W2 d h.1,a1X ds h.2⟩
end
mutual
theorem D5:∀a b:D,B6 a=yn->B6 b=yn->(aF a b=yn↔a=b)
 |.int i,b,_,hb=>by
  cases b with
  |int j=>
   show (i==j)=yn↔_;rw[beq_iff_eq];exact⟨λe=>by rw[e],λe=>by injection e⟩
  |tuple ds=>simp[aF]
  |_=>simp only[B6]at hb;cases hb
 |.tuple xs,b,ha,hb=>by
  cases b with
  |int j=>simp[aF]
  |tuple ys=>
   simp only[B6]at ha hb;simp only[aF];rw[a1Y xs ys ha hb];exact⟨λe=>by rw[e],λe=>by injection e⟩
  |_=>simp only[B6]at hb;cases hb
 |.none,b,h,_|.bool _,b,h,_|.str _,b,h,_|.list _,b,h,_|.dict _,b,h,_=>by simp only[B6]at h;cases h
theorem a1Y:∀a b:List D,o7 a=yn->o7 b=yn->(bN a b=yn↔a=b)
 |[],[],_,_=>by simp[bN]
 |[],_::_,_,_=>by simp[bN]
 |_::_,[],_,_=>by simp[bN]
 |x::xs,y::ys,ha,hb=>by
  simp only[o7,aC]at ha hb;simp only[bN,aC];rw[D5 x y ha.1 hb.1,a1Y xs ys ha.2 hb.2]
  constructor
  ·rintro⟨rfl,rfl⟩;rfl
  ·intro e;injection e with e1 e2;exact⟨e1,e2⟩
end
mutual
theorem a2Y{h h':cS}{es ep}(ho:h.get? d=cz o)(hd:o.data=.dict es ep)(hs:mJ d h h'):∀(k:D) {v:ak} {as:List av},B6 k=yn->Reads h v k as->Reads h' v k as
 |.int _,_,_,_,r=>by cases r;exact .int _ _
 |.tuple ds,_,_,hk,r=>by
  simp only[B6]at hk;cases r with
  |@tuple a oo vs n _ as c1 c2 c3 c4=>
   have iU:a≠d:=by
    rintro rfl;obtain rfl:oo=o:=aH (c1.symm.trans ho);rw[hd]at c3;exact nomatch c3
   exact .tuple ((hs.2 a iU).trans c1) c2 c3 (a0j ho hd hs ds hk c4)
 |.none,_,_,h,_|.bool _,_,_,h,_|.str _,_,_,h,_|.list _,_,_,h,_|.dict _,_,_,h,_=>by simp only[B6]at h;cases h
theorem a0j{h h':cS}{es ep}(ho:h.get? d=cz o)(hd:o.data=.dict es ep)(hs:mJ d h h'):∀(ks:List D) {vs:List ak} {as:List av},o7 ks=yn->iZ h vs ks as->iZ h' vs ks as
 |[],_,_,_,r=>by cases r;exact .nil
 |k::ks,_,_,hk,r=>by
  simp only[o7,aC]at hk;cases r with
  |cons r1 r2=>exact .cons (a2Y ho hd hs k hk.1 r1) (a0j ho hd hs ks hk.2 r2)
end
section
variable {prog:bB}{w:bZ}{E:ak->ar->Prop}
mutual
theorem a2Z:∀(k:D) {A:bS} {s:ar} {v:ak} {as:List av} {Q:Int->ar->Prop},B6 k=yn->A.units+k.depth<dQ->Reads s.heap v k as->Q (hashD k) {s with toks:=s.toks+t9 k}->aX (aV prog w) A (pyHash v) Q E s
 |.int i,A,s,v,as,Q,_,_,r,h=>by
  cases r
  simp only[hashD,t9]at h;exact wpAny_pyHash_int h
 |.tuple ds,A,s,v,as,Q,hk,hu,r,h=>by
  simp only[B6]at hk;simp only[dN]at hu;simp only[hashD,t9]at h;cases r with
  |@tuple a o items n _ as ho hc hd hi=>
   have hT:s.TypeIs (.ref a) "tuple":=⟨o,ho,hc⟩;unfold pyHash
   first|unfold pyHashByItsType|skip
   first|refine ae (wpAny_cRoomFor_or (.inr (by lia)) ?_)|skip
   refine ae (gA hT lz.lookup ?_);show aX _ _ (if (cz (ak.builtin "tuple.__hash__")==cz bw)=yn then _ else _) Q E s;rw[aJ (by rw[beq_builtin_none];exact bU)];refine ae (gA hT lz.lookup ?_);show aX _ _ (callSpecialIfBoundUnlessNone? (.ref a) "__hash__" _ >>= _) Q E s;refine ae (wpAny_callSpecialIfBoundUnlessNone?_slot hT lz (et lz hT F.entry_tuple_hash ?_ (F.args_tuple_hash_1 _)));show aX _ _ (Builtin.Tuple.tupleItemsOf (.ref a) >>= _) _ _ s;refine ae (wpAny_tupleItemsOf ho hd ?_);refine ae ?_;rw[<-jU];refine a4J ds (A:=A.in1) (acc:=#[]) hk (by show A.units+1+_<_;lia) hi ?_;show aX _ _ (retInt (eP _)) _ _ _;simp only[mL,bx];refine wpAny_ret_mkInt ?_;show aX _ _ (if (decide (-(2:Int)^63<=eP (z8 ds))&&decide (eP (z8 ds)<2^63))=yn then _ else _) Q E _;unfold reduceHash at h;by_cases hr:(decide (-(2:Int)^63<=eP (z8 ds))&&decide (eP (z8 ds)<2^63))=yn
   ·rw[aB hr];rw[aB hr]at h;exact aE (by simpa[gj]using h)
   ·rw[aJ hr];rw[aJ hr]at h;exact ae (iA (aE (by simpa[gj]using h)))
 |.none,_,_,_,_,_,h,_,_,_|.bool _,_,_,_,_,_,h,_,_,_|.str _,_,_,_,_,_,h,_,_,_|.list _,_,_,_,_,_,h,_,_,_|.dict _,_,_,_,_,_,h,_,_,_=>by simp only[B6]at h;cases h
theorem a4J:∀(ks:List D) {A:bS} {s:ar} {vs:List ak} {as:List av} {acc:Array Int} {Q:Array Int->ar->Prop},o7 ks=yn->A.units+cW ks<dQ->iZ s.heap vs ks as->Q (acc++(z8 ks).toArray) {s with toks:=s.toks+P4 ks}->
  aX (aV prog w) A (forIn vs acc λx r=>do let r1 <-pyHash x;pure PUnit.unit;pure (fH (r.push r1))) Q E s
 |[],A,s,vs,as,acc,Q,_,_,r,h=>by
  cases r
  rw[qQ];exact aE (by simpa[z8,P4]using h)
 |k::ks,A,s,vs,as,acc,Q,hk,hu,r,h=>by
  simp only[o7,aC]at hk;simp only[cW]at hu;cases r with
  |cons r1 r2=>
   rw[pQ];refine ae (ae (a2Z k hk.1 (by lia) r1 ?_));refine ae (aE (aE ?_));refine a4J ks (s:={s with toks:=s.toks+t9 k}) hk.2 (by lia) r2 ?_;simp only[z8,P4]at h;have e:(acc.push (hashD k))++(z8 ks).toArray=acc++(hashD k::z8 ks).toArray:=by simp
   rw[e];simpa[gj]using h
end
end
section
variable {prog:bB}{w:bZ}{A:bS}{E:ak->ar->Prop}
mutual
theorem a4K:∀(k:D) (n:Nat) {s:ar} {v:ak} {as:List av} {Q:Bool->ar->Prop},B6 k=yn->k.depth<=n->Reads s.heap v k as->Q yn s->aX (aV prog w) A (eqIsQuiet n v) Q E s
 |.int i,n,s,v,as,Q,_,_,r,h=>by
  cases r
  rw[eqIsQuiet_byValue n (v:=.int i _) rfl];exact aE h
 |.tuple ds,0,s,v,as,Q,_,hn,_,_=>by simp only[dN]at hn;lia
 |.tuple ds,n+1,s,v,as,Q,hk,hn,r,h=>by
  simp only[B6]at hk;simp only[dN]at hn;cases r with
  |@tuple a o items m _ as ho hc hd hi=>
   have hT:s.TypeIs (.ref a) "tuple":=⟨o,ho,hc⟩;unfold eqIsQuiet;refine ae (gA hT F.slot_tuple_eq.lookup ?_);show aX _ _ (isInstance (.ref a) (.type "tuple") >>= _) _ _ s;refine ae (lP hT isSubtype_tuple_tuple ?_);simp only[gS,br,dh];refine ae (uY ho hd ?_);refine ae ?_;show aX _ _ (forIn items _ _) _ _ s;rw[<-jU];refine rA _ (λrest r s'=>r.1=xn/\s'=s/\∃ks bs,o7 ks=yn/\cW ks<=n/\(∀k∈ks,k∈ds)/\iZ s.heap rest ks bs) _ ?_ ?_ _ _ ⟨rfl,rfl,ds,as,hk,by lia,λk hk=>hk,hi⟩
   ·rintro v rest r s' ⟨hr,rfl,ks,bs,k1,k2,k3,k4⟩;cases k4 with
    |@cons _ _ d' jC _ _ r1 r2=>
     simp only[o7,aC]at k1;simp only[cW]at k2;refine ae (a4L ds n hk (by lia) d' (k3 d' aL) r1 ?_);simp only[gS,br,dh];exact aE ⟨rfl,rfl,_,_,k1.2,by lia,λk hk=>k3 k (aw _ hk),r2⟩
   ·rintro⟨r1,r2⟩ s' ⟨hr,rfl,_⟩;simp only at hr;subst hr;exact aE h
 |.none,_,_,_,_,_,h,_,_,_|.bool _,_,_,_,_,_,h,_,_,_|.str _,_,_,_,_,_,h,_,_,_|.list _,_,_,_,_,_,h,_,_,_|.dict _,_,_,_,_,_,h,_,_,_=>by simp only[B6]at h;cases h
theorem a4L:∀(ds:List D) (n:Nat),o7 ds=yn->cW ds<=n->∀k∈ds,∀{s:ar} {v:ak} {as:List av} {Q:Bool->ar->Prop},Reads s.heap v k as->Q yn s->aX (aV prog w) A (eqIsQuiet n v) Q E s
 |[],n,_,_,k,hk,s,v,as,Q,r,h=>nomatch hk
 |d::ds,n,lx,hn,k,hk,s,v,as,Q,r,h=>by
  simp only[o7,aC]at lx;simp only[cW]at hn;rcases aD.mp hk with e|hk
  ·rw[e]at r;exact a4K d n lx.1 (by lia) r h
  ·exact a4L ds n lx.2 (by lia) k hk r h
end
end
noncomputable def b0W:DecidableEq D:=λa b=>Classical.propDecidable (a=b)
noncomputable def b2R(prog:bB)(w:bZ):@HeapKind prog w D b0W:=
 letI:DecidableEq D:=b0W
 {
  is:=λh k a=>B6 k=yn/\k.depth<=7/\∃as,Reads h (.ref a) k as
  hash:=hashD
  draws:=t9
  room:=λA=>A.units+8<dQ
  inj:=λ⟨hx,_,_,r⟩ ⟨_,_,_,r'⟩=>SeqAt.Reads.unique _ _ _ _ _ (W2 _ hx) r r'
  keeps:=λ⟨hx,hd,_,r⟩ ho jX hs=>⟨hx,hd,_,a2Y ho jX hs _ hx r⟩
  pyHash:=λhu ⟨hx,hd,_,r⟩ h=>a2Z _ hx (by lia) r h
  eqBool:=λ{A E s x y a b Q} hu ⟨hx,hd,_,r⟩ ⟨hy,jX,_,r'⟩ h=>by
   refine lY x y A s _ _ _ _ r r' (W2 _ hx) (W2 _ hy) (by have:=ly x.depth y.depth;lia) _ _ _ _ ?_;have e:aF x y=@decide (x=y) (b0W x y):=by
    by_cases c:x=y
    ·rw[@aW _ (b0W x y) c];exact (D5 x y hx hy).mpr c
    ·rw[@bg _ (b0W x y) c];cases q:aF x y with
     |false=>rfl
     |true=>exact absurd ((D5 x y hx hy).mp q) c
   rw[e];exact h
  quiet:=λ⟨hx,hd,_,r⟩ h=>a4K _ 8 hx (by lia) r h
 }
def V2(e:D×V×V)(x:hJ):Prop:=x.hash=hashD e.1/\RelV e.2.1 x.key/\RelV e.2.2 x.val
def a5A:List D->Bool
 |.tuple [.int 0]::_=>yn
 |_=>yp
abbrev S7(es:List (D×V×V)):Bool:=a5A (es.map (·.1))
def g9(a:av)(es:List (D×V×V)):HO:=.ext λh=>(a==dr)=yp/\es.length<=aZ/\(es.map (·.1)).Nodup/\∃o ents ep,h.get? a=cz o/\o.ExactDict/\o.data=.dict ents ep/\fR V2 es ents.toList/\(S7 es=yp->ep=es.length)
def Mu:HO->Prop
 |.lst _=>True
 |.dK _=>True
 |.ext _=>True
 |_=>False
abbrev MuO:={o:HO // Mu o}
def keyOk(kt:Bool)(k:D):Prop:=B6 k=yn/\k.depth<=7/\(kt=yn->∃ds,k=.tuple ds)/\(kt=yp->∃i,k=.int i)
end VS
namespace VS
open PySem L2
mutual
def imm:bj->Bool
 |.none=>yn
 |.bool _=>yn
 |.int _=>yn
 |.str _=>yn
 |.list _=>yp
 |.tuple ds=>c9 ds
 |.dict _=>yp
def c9:List bj->Bool
 |[]=>yn
 |d::ds=>imm d&&c9 ds
end
def SqX(K:ag)(H:Hp)(a:av)(xs:List V):Prop:=
 Rd H a (.lst xs)\/∃(its:List ak) (n:Nat),K.lookup a=cz {cls:=.type "list",data:=.seq its.toArray n}/\its.length<=aZ/\Vals xs its
def SqX.l(h:SqX K H a xs):SqL K H a xs:=by
 rcases h with h|⟨its,n,h1,h2,h3⟩
 ·exact .inl h
 ·exact .inr ⟨_,its.toArray,n,h1,rfl,rfl,rfl,by simpa using h2,by simpa using h3⟩
theorem SqX.ok{X:Cx}(h:SqX X.K H a xs)(I:Inv X pins U H s):xs.length<=aZ/\∃(its:List ak) (n:Nat),Vals xs its/\s.heap.get? a=cz {cls:=.type "list",data:=.seq its.toArray n}:=by
 rcases h with h|⟨its,n,h1,h2,h3⟩
 ·exact h.ok I.hok
 ·exact⟨by rw[h3.length];exact h2,its,n,h3,I.kIn _ _ h1⟩
mutual
theorem W3:∀d:bj,B6 d=yn->imm d=yn
 |.int _,_=>by simp only[imm]
 |.tuple ds,h=>by
  simp only[B6]at h;simp only[imm];exact a1Z ds h
 |.none,h|.bool _,h|.str _,h|.list _,h|.dict _,h=>by simp only[B6]at h;cases h
theorem a1Z:∀ds:List bj,o7 ds=yn->c9 ds=yn
 |[],_=>by simp only[c9]
 |d::ds,h=>by
  simp only[o7,aC]at h;simp only[c9,aC];exact⟨W3 d h.1,a1Z ds h.2⟩
end
mutual
def Den(K:ag)(H:Hp):V->bj->Prop
 |v,.none=>v=.non
 |v,.bool b=>v=.bl b
 |v,.int i=>v=.int i
 |v,.str x=>v=.str x
 |v,.list ds=>∃a xs,v=.ref a/\SqX K H a xs/\DenAll K H xs ds
 |v,.tuple ds=>∃a xs,v=.ref a/\SqT K H a xs/\DenAll K H xs ds
 |v,.dict kvs=>∃a es,v=.ref a/\H a=cz (g9 a es)/\DenKV K H es kvs
def DenAll(K:ag)(H:Hp):List V->List bj->Prop
 |xs,[]=>xs=[]
 |xs,d::ds=>∃v r,xs=v::r/\Den K H v d/\DenAll K H r ds
def DenKV(K:ag)(H:Hp):List (bj×V×V)->List (bj×bj)->Prop
 |es,[]=>es=[]
 |es,(k,d)::r=>∃e q,es=e::q/\e.1=k/\Den K H e.2.1 k/\Den K H e.2.2 d/\DenKV K H q r
end
def Rd.up(h:Rd H a u)(e:Same H H'):Rd H' a u:=by
 rcases h with h|⟨o,h⟩
 ·exact .inl (e _ _ h)
 ·exact .inr ⟨o,e _ _ h⟩
def O7(h:SqX K H a xs)(e:Same H H'):SqX K H' a xs:=h.imp (λq=>Rd.up q e) id
def a0x(h:SqT K H a xs)(e:Same H H'):SqT K H' a xs:=h.imp (λq=>Rd.up q e) id
mutual
theorem Den.mono{K:ag}{H H':Hp}(e:Same H H'):∀(d:bj) {v:V},Den K H v d->Den K H' v d
 |.none,_,h=>by simpa only [Den]using h
 |.bool _,_,h=>by simpa only [Den]using h
 |.int _,_,h=>by simpa only [Den]using h
 |.str _,_,h=>by simpa only [Den]using h
 |.list ds,_,h=>by
  simp only[Den]at h ⊢;obtain⟨a,xs,h1,h2,h3⟩:=h;exact⟨a,xs,h1,O7 h2 e,DenAll.mono e ds h3⟩
 |.tuple ds,_,h=>by
  simp only[Den]at h ⊢;obtain⟨a,xs,h1,h2,h3⟩:=h;exact⟨a,xs,h1,a0x h2 e,DenAll.mono e ds h3⟩
 |.dict kvs,_,h=>by
  simp only[Den]at h ⊢;obtain⟨a,es,h1,h2,h3⟩:=h;exact⟨a,es,h1,e _ _ h2,DenKV.mono e kvs h3⟩
theorem DenAll.mono{K:ag}{H H':Hp}(e:Same H H'):∀(ds:List bj) {xs:List V},DenAll K H xs ds->DenAll K H' xs ds
 |[],_,h=>by simpa only [DenAll]using h
 |d::ds,_,h=>by
  simp only[DenAll]at h ⊢;obtain⟨v,r,h1,h2,h3⟩:=h;exact⟨v,r,h1,Den.mono e d h2,DenAll.mono e ds h3⟩
theorem DenKV.mono(e:Same H H'):∀(kvs:List (bj×bj)) {es:List (bj×V×V)},DenKV K H es kvs->DenKV K H' es kvs
 |[],_,h=>by simpa only [DenKV]using h
 | (k,d)::r,_,h=>by
  simp only[DenKV]at h ⊢;obtain⟨x,q,h1,h2,h3,h4,h5⟩:=h;exact⟨x,q,h1,h2,Den.mono e k h3,Den.mono e d h4,DenKV.mono e r h5⟩
end
section
variable {K:ag}{H H':Hp}
def Den.up{d:bj}{v:V}(h:Den K H v d)(e:Same H H'):Den K H' v d:=Den.mono e d h
def DenAll.up{ds:List bj}{xs:List V}(h:DenAll K H xs ds)(e:Same H H'):DenAll K H' xs ds:=DenAll.mono e ds h
def den_none:Den K H .non .none:=by simp only[Den]
def den_bool{b:Bool}:Den K H (.bl b) (.bool b):=by simp only[Den]
def den_int{i:Int}:Den K H (.int i) (.int i):=by simp only[Den]
def den_list{a:av}{xs:List V}{ds:List bj}(h:SqX K H a xs)(q:DenAll K H xs ds):Den K H (.ref a) (.list ds):=by
 simp only[Den];exact⟨a,xs,rfl,h,q⟩
def den_tup{a:av}{xs:List V}{ds:List bj}(h:SqT K H a xs)(q:DenAll K H xs ds):Den K H (.ref a) (.tuple ds):=by
 simp only[Den];exact⟨a,xs,rfl,h,q⟩
theorem a6u:∀{es:List (bj×V×V)} {ds:List bj},(∀e∈es,Den K H e.2.1 e.1)->DenAll K H (es.map (·.2.2)) ds->DenKV K H es ((es.map (·.1)).zip ds)
 |[],ds,_,h=>by
  cases ds with
  |nil=>simp only[cZ,n_,DenKV]
  |cons d ds=>simp only[DenAll]at h;obtain⟨v,r,h1,_⟩:=h;cases h1
 |e::es,ds,hk,h=>by
  cases ds with
  |nil=>simp only[DenAll]at h;cases h
  |cons d ds=>
   simp only[DenAll]at h;obtain⟨v,r,h1,h2,h3⟩:=h;cases h1
   simp only[ax,dB,DenKV];exact⟨e,es,rfl,rfl,hk e aL,h2,a6u (λe he=>hk e (aw _ he)) h3⟩
def a4M(h:H a=cz (g9 a es))(hk:∀e∈es,Den K H e.2.1 e.1)(hv:DenAll K H (es.map (·.2.2)) ds):Den K H (.ref a) (.dict ((es.map (·.1)).zip ds)):=by
 simp only[Den];exact⟨a,es,rfl,h,a6u hk hv⟩
def denAll_nil:DenAll K H [] []:=by simp only[DenAll]
def denAll_cons{v:V}{d:bj}{xs:List V}{ds:List bj}(h:Den K H v d)(q:DenAll K H xs ds):DenAll K H (v::xs) (d::ds):=by
 simp only[DenAll];exact⟨v,xs,rfl,h,q⟩
def Den.list_inv{v:V}{ds:List bj}(h:Den K H v (.list ds)):∃a xs,v=.ref a/\SqX K H a xs/\DenAll K H xs ds:=by simpa only [Den]using h
def Den.tup_inv{v:V}{ds:List bj}(h:Den K H v (.tuple ds)):∃a xs,v=.ref a/\SqT K H a xs/\DenAll K H xs ds:=by simpa only [Den]using h
def Den.dict_inv(h:Den K H v (.dict kvs)):∃a es,v=.ref a/\H a=cz (g9 a es)/\DenKV K H es kvs:=by simpa only [Den]using h
theorem DenKV.keys:∀{kvs:List (bj×bj)} {es:List (bj×V×V)},DenKV K H es kvs->es.map (·.1)=kvs.map (·.1)
 |[],_,h=>by simp only[DenKV]at h;rw[h];rfl
 | (k,d)::r,_,h=>by
  simp only[DenKV]at h;obtain⟨e,q,rfl,h1,_,_,h2⟩:=h;rw[ax,ax,DenKV.keys h2,h1]
theorem DenKV.vals:∀{kvs:List (bj×bj)} {es:List (bj×V×V)},DenKV K H es kvs->DenAll K H (es.map (·.2.2)) (kvs.map (·.2))
 |[],_,h=>by simp only[DenKV]at h;rw[h];simp only[cZ,DenAll]
 | (k,d)::r,_,h=>by
  simp only[DenKV]at h;obtain⟨e,q,rfl,_,_,h1,h2⟩:=h;simp only[ax,DenAll];exact⟨_,_,rfl,h1,DenKV.vals h2⟩
theorem DenKV.kden:∀{kvs:List (bj×bj)} {es:List (bj×V×V)},DenKV K H es kvs->∀e∈es,Den K H e.2.1 e.1
 |[],_,h,e,he=>by simp only[DenKV]at h;rw[h]at he;cases he
 | (k,d)::r,_,h,e,he=>by
  simp only[DenKV]at h;obtain⟨e0,q,rfl,h0,h1,_,h2⟩:=h;rcases aD.mp he with z|z
  ·subst z;rw[h0];exact h1
  ·exact DenKV.kden h2 e z
def Den.int_inv{v:V}{i:Int}(h:Den K H v (.int i)):v=.int i:=by simpa only [Den]using h
def Den.bool_inv(h:Den K H v (.bool b)):v=.bl b:=by simpa only [Den]using h
def Den.none_inv(h:Den K H v .none):v=.non:=by simpa only [Den]using h
def Den.str_inv(h:Den K H v (.str x)):v=.str x:=by simpa only [Den]using h
def DenAll.cons_inv{xs:List V}{d:bj}{ds:List bj}(h:DenAll K H xs (d::ds)):∃v r,xs=v::r/\Den K H v d/\DenAll K H r ds:=by simpa only [DenAll]using h
def DenAll.nil_inv{xs:List V}(h:DenAll K H xs []):xs=[]:=by simpa only [DenAll]using h
theorem DenAll.length:∀{ds:List bj} {xs:List V},DenAll K H xs ds->xs.length=ds.length
 |[],_,h=>by rw[h.nil_inv];rfl
 |d::ds,_,h=>by
  obtain⟨v,r,rfl,_,h⟩:=h.cons_inv;rw[aS,aS,DenAll.length h]
theorem DenAll.get:∀{ds:List bj} {xs:List V} {i:Nat} {d:bj},DenAll K H xs ds->ds[i]?=cz d->∃v,xs[i]?=cz v/\Den K H v d
 |[],_,i,d,_,e=>by simp at e
 |d0::ds,_,0,d,h,e=>by
  obtain⟨v,r,rfl,h1,_⟩:=h.cons_inv;have:d0=d:=by simpa using e
  subst this;exact⟨v,rfl,h1⟩
 |d0::ds,_,i+1,d,h,e=>by
  obtain⟨v,r,rfl,_,h1⟩:=h.cons_inv;obtain⟨u,h2,h3⟩:=DenAll.get (i:=i) h1 (by simpa using e);exact⟨u,by simpa using h2,h3⟩
def DenAll.getV{ds:List bj}{xs:List V}{i:Nat}{v:V}(h:DenAll K H xs ds)(e:xs[i]?=cz v):∃d,ds[i]?=cz d/\Den K H v d:=by
 have hi:=(aM.mp e).1;rw[h.length]at hi;obtain⟨u,h1,h2⟩:=h.get (ab hi);rw[e]at h1;cases h1
 exact⟨_,ab hi,h2⟩
theorem DenAll.append:∀{ds:List bj} {xs:List V} {es:List bj} {ys:List V},DenAll K H xs ds->DenAll K H ys es->DenAll K H (xs++ys) (ds++es)
 |[],_,_,_,h,q=>by rw[h.nil_inv];exact q
 |d::ds,_,_,_,h,q=>by
  obtain⟨v,r,rfl,h1,h2⟩:=h.cons_inv;exact denAll_cons h1 (DenAll.append h2 q)
theorem DenAll.take:∀{ds:List bj} {xs:List V} (n:Nat),DenAll K H xs ds->DenAll K H (xs.take n) (ds.take n)
 |_,_,0,_=>by rw[List.take_zero,List.take_zero];exact denAll_nil
 |[],_,n+1,h=>by rw[h.nil_inv];exact denAll_nil
 |d::ds,_,n+1,h=>by
  obtain⟨v,r,rfl,h1,h2⟩:=h.cons_inv;exact denAll_cons h1 (DenAll.take n h2)
theorem DenAll.drop:∀{ds:List bj} {xs:List V} (n:Nat),DenAll K H xs ds->DenAll K H (xs.drop n) (ds.drop n)
 |_,_,0,h=>h
 |[],_,n+1,h=>by rw[h.nil_inv];exact denAll_nil
 |d::ds,_,n+1,h=>by
  obtain⟨v,r,rfl,_,h2⟩:=h.cons_inv;exact DenAll.drop n h2
theorem DenAll.ints:∀(ns:List Int),DenAll K H (ns.map V.int) (ns.map aK)
 |[]=>denAll_nil
 |n::ns=>denAll_cons den_int (DenAll.ints ns)
end
def cut(H:Hp)(F:List av):Hp:=λa=>if a∈F then xn else H a
section
variable {H H':Hp}{F F':List av}{a:av}{o:HO}
def a0P(h:a∉F):cut H F a=H a:=by unfold cut;rw[aJ h]
def a1r(h:a∈F):cut H F a=xn:=by unfold cut;rw[aB h]
def m8(h:cut H F a=cz o):a∉F/\H a=cz o:=by
 by_cases q:a∈F
 ·rw[a1r q]at h;cases h
 ·rw[a0P q]at h;exact⟨q,h⟩
def i9(h1:a∉F)(h2:H a=cz o):cut H F a=cz o:=by rw[a0P h1];exact h2
def j9:Same (cut H F) H:=λ_ _ h=>(m8 h).2
def P5(e:Same H H')(hF:∀a o,H a=cz o->a∈F'->a∈F):Same (cut H F) (cut H' F'):=λa o h=>by
 obtain⟨h1,h2⟩:=m8 h;exact i9 (λq=>h1 (hF a o h2 q)) (e _ _ h2)
def P6(e:Same H H'):Same (cut H F) (cut H' F):=P5 e λ_ _ _ q=>q
def D6(hF:∀a,a∈F'->a∈F):Same (cut H F) (cut H F'):=P5 (Same.refl H) λa _ _ q=>hF a q
def K6:cut H []=H:=by
 funext a
 exact a0P (by simp)
end
inductive Ty where
 |i|f|l (t:Ty)|tp (ts:List Ty)|d (kt:Bool) (t:Ty)
mutual
def Ty.shut:Ty->Bool
 |.i=>yn
 |.f=>yp
 |.l u=>u.shut
 |.tp us=>Ty.shutAll us
 |.d _ u=>u.shut
def Ty.shutAll:List Ty->Bool
 |[]=>yn
 |u::us=>u.shut&&Ty.shutAll us
end
def ListAll(R:V->bj->List av->Prop):List V->List bj->List av->Prop
 |xs,[],fp=>xs=[]/\fp=[]
 |xs,d::ds,fp=>∃v r f g,xs=v::r/\fp=f++g/\R v d f/\ListAll R r ds g
mutual
def Own(K:ag)(H:Hp)(F:List av):Ty->V->bj->List av->Prop
 |.i,v,d,fp=>fp=[]/\imm d=yn/\Den K (cut H F) v d
 |.f,v,d,fp=>fp=[]/\Den K (cut H F) v d
 |.l u,v,d,fp=>(fp=[]/\imm d=yn/\Den K (cut H F) v d)\/∃a xs ds fs,v=.ref a/\H a=cz (.lst xs)/\d=.list ds/\fp=a::fs/\ListAll (Own K H F u) xs ds fs
 |.tp us,v,d,fp=>∃a xs ds,v=.ref a/\H a=cz (.tup xs)/\a∉F/\d=.tuple ds/\OwnTs K H F us xs ds fp
 |.d kt u,v,d,fp=>∃a es ds fs,v=.ref a/\H a=cz (g9 a es)/\d=.dict ((es.map (·.1)).zip ds)/\fp=a::fs/\((es.map (·.1)).Nodup/\∀e∈es,keyOk kt e.1/\Den K (cut H F) e.2.1 e.1)/\ListAll (Own K H F u) (es.map (·.2.2)) ds fs
def OwnTs(K:ag)(H:Hp)(F:List av):List Ty->List V->List bj->List av->Prop
 |[],xs,ds,fp=>xs=[]/\ds=[]/\fp=[]
 |u::us,xs,ds,fp=>∃v r d e f g,xs=v::r/\ds=d::e/\fp=f++g/\Own K H F u v d f/\OwnTs K H F us r e g
end
section
variable {R R':V->bj->List av->Prop}
def l8:ListAll R [] [] []:=by simp only[ListAll];exact⟨trivial,trivial⟩
def k9(h:R v d f)(q:ListAll R xs ds g):ListAll R (v::xs) (d::ds) (f++g):=by
 simp only[ListAll];exact⟨v,xs,f,g,rfl,rfl,h,q⟩
def ListAll.nil_inv(h:ListAll R xs [] fp):xs=[]/\fp=[]:=by simpa only [ListAll]using h
def ListAll.cons_inv(h:ListAll R xs (d::ds) fp):∃v r f g,xs=v::r/\fp=f++g/\R v d f/\ListAll R r ds g:=by simpa only [ListAll]using h
theorem ListAll.length:∀{ds:List bj} {xs:List V} {fp:List av},ListAll R xs ds fp->xs.length=ds.length
 |[],_,_,h=>by rw[h.nil_inv.1];rfl
 |d::ds,_,_,h=>by
  obtain⟨v,r,f,g,rfl,_,_,h⟩:=h.cons_inv;rw[aS,aS,ListAll.length h]
theorem ListAll.imp:∀{ds:List bj} {xs:List V} {fp:List av},ListAll R xs ds fp->(∀v d f,(∀a∈f,a∈fp)->d∈ds->R v d f->R' v d f)->ListAll R' xs ds fp
 |[],_,_,h,_=>by obtain⟨rfl,rfl⟩:=h.nil_inv;exact l8
 |d::ds,_,_,h,q=>by
  obtain⟨v,r,f,g,rfl,rfl,h1,h2⟩:=h.cons_inv;exact k9 (q v d f (λa ha=>aj _ ha) aL h1) (ListAll.imp h2 λv d f' hf hd hR=>q v d f' (λa ha=>ah _ (hf a ha)) (aw _ hd) hR)
theorem ListAll.append:∀{ds es:List bj} {xs ys:List V} {fp gp:List av},ListAll R xs ds fp->ListAll R ys es gp->ListAll R (xs++ys) (ds++es) (fp++gp)
 |[],_,_,_,_,_,h,q=>by obtain⟨rfl,rfl⟩:=h.nil_inv;exact q
 |d::ds,_,_,_,_,_,h,q=>by
  obtain⟨v,r,f,g,rfl,rfl,h1,h2⟩:=h.cons_inv;rw[aN];exact k9 h1 (ListAll.append h2 q)
theorem ListAll.at_:∀{ds:List bj} {xs:List V} {fp:List av} {k:Nat} {d:bj},ListAll R xs ds fp->ds[k]?=cz d->
  ∃v f pre post,xs[k]?=cz v/\R v d f/\fp=pre++(f++post)/\ListAll R (xs.take k) (ds.take k) pre/\ListAll R (xs.drop (k+1)) (ds.drop (k+1)) post
 |[],_,_,k,d,_,e=>by simp at e
 |d0::ds,_,_,0,d,h,e=>by
  obtain⟨v,r,f,g,rfl,rfl,h1,h2⟩:=h.cons_inv;have:d0=d:=by simpa using e
  subst this;exact⟨v,f,[],g,rfl,h1,rfl,l8,h2⟩
 |d0::ds,_,_,k+1,d,h,e=>by
  obtain⟨v,r,f,g,rfl,rfl,h1,h2⟩:=h.cons_inv;obtain⟨u,f',pre,post,e1,e2,e3,e4,e5⟩:=ListAll.at_ (k:=k) h2 (by simpa using e);subst e3;exact⟨u,f',f++pre,post,by simpa using e1,e2,by rw[aN],k9 h1 e4,e5⟩
end
section
variable {K:ag}{H H':Hp}{F F':List av}
theorem ListAll.den(hR:∀v d f,R v d f->Den K H v d):∀{ds:List bj} {xs:List V} {fp:List av},ListAll R xs ds fp->DenAll K H xs ds
 |[],_,_,h=>by rw[h.nil_inv.1];exact denAll_nil
 |d::ds,_,_,h=>by
  obtain⟨v,r,f,g,rfl,_,h1,h2⟩:=h.cons_inv;exact denAll_cons (hR _ _ _ h1) (ListAll.den hR h2)
mutual
theorem Own.den:∀(u:Ty) {v:V} {d:bj} {fp:List av},Own K H F u v d fp->Den K H v d
 |.i,_,_,_,h=>by simp only[Own]at h;exact h.2.2.up j9
 |.f,_,_,_,h=>by simp only[Own]at h;exact h.2.up j9
 |.l u,_,_,_,h=>by
  simp only[Own]at h;rcases h with⟨_,_,h⟩|⟨a,xs,ds,fs,rfl,h1,rfl,_,h2⟩
  ·exact h.up j9
  ·exact den_list (.inl (.inl h1)) (ListAll.den (λv d f q=>Own.den u q) h2)
 |.tp us,_,_,_,h=>by
  simp only[Own]at h;obtain⟨a,xs,ds,rfl,h1,_,rfl,h2⟩:=h;exact den_tup (SqT.of h1) (OwnTs.den us h2)
 |.d kt u,_,_,_,h=>by
  simp only[Own]at h;obtain⟨a,es,ds,fs,rfl,h1,rfl,_,h3,h2⟩:=h;exact a4M h1 (λe he=>(h3.2 e he).2.up j9) (ListAll.den (λv d f q=>Own.den u q) h2)
theorem OwnTs.den:∀(us:List Ty) {xs:List V} {ds:List bj} {fp:List av},OwnTs K H F us xs ds fp->DenAll K H xs ds
 |[],_,_,_,h=>by simp only[OwnTs]at h;obtain⟨rfl,rfl,_⟩:=h;exact denAll_nil
 |u::us,_,_,_,h=>by
  simp only[OwnTs]at h;obtain⟨v,r,d,e,f,g,rfl,rfl,_,h1,h2⟩:=h;exact denAll_cons (Own.den u h1) (OwnTs.den us h2)
end
mutual
theorem Own.frame(e:Same (cut H F) (cut H' F')):∀(u:Ty) {v:V} {d:bj} {fp:List av},Own K H F u v d fp->(∀a∈fp,H' a=H a)->Own K H' F' u v d fp
 |.i,_,_,_,h,_=>by simp only[Own]at h ⊢;exact⟨h.1,h.2.1,h.2.2.up e⟩
 |.f,_,_,_,h,_=>by simp only[Own]at h ⊢;exact⟨h.1,h.2.up e⟩
 |.l u,_,_,_,h,k=>by
  simp only[Own]at h ⊢;rcases h with⟨h1,h2,h⟩|⟨a,xs,ds,fs,rfl,h1,rfl,rfl,h2⟩
  ·exact .inl ⟨h1,h2,h.up e⟩
  ·exact .inr ⟨a,xs,ds,fs,rfl,(k a aL).trans h1,rfl,rfl,h2.imp λv d f hf _ q=>Own.frame e u q λb hb=>k b (aw _ (hf b hb))⟩
 |.tp us,_,_,_,h,k=>by
  simp only[Own]at h ⊢;obtain⟨a,xs,ds,rfl,h1,h0,rfl,h2⟩:=h;obtain⟨h3,h4⟩:=m8 (e a _ (i9 h0 h1));exact⟨a,xs,ds,rfl,h4,h3,rfl,OwnTs.frame e us h2 k⟩
 |.d kt u,_,_,_,h,k=>by
  simp only[Own]at h ⊢;obtain⟨a,es,ds,fs,rfl,h1,rfl,rfl,h3,h2⟩:=h;exact⟨a,es,ds,fs,rfl,(k a aL).trans h1,rfl,rfl,⟨h3.1,λx hx=>⟨(h3.2 x hx).1,(h3.2 x hx).2.up e⟩⟩,h2.imp λv d f hf _ q=>Own.frame e u q λb hb=>k b (aw _ (hf b hb))⟩
theorem OwnTs.frame(e:Same (cut H F) (cut H' F')):∀(us:List Ty) {xs:List V} {ds:List bj} {fp:List av},OwnTs K H F us xs ds fp->(∀a∈fp,H' a=H a)->OwnTs K H' F' us xs ds fp
 |[],_,_,_,h,_=>by simpa only [OwnTs]using h
 |u::us,_,_,_,h,k=>by
  simp only[OwnTs]at h ⊢;obtain⟨v,r,d,e',f,g,rfl,rfl,rfl,h1,h2⟩:=h;exact⟨v,r,d,e',f,g,rfl,rfl,rfl,Own.frame e u h1 λa ha=>k a (aj _ ha),OwnTs.frame e us h2 λa ha=>k a (ah _ ha)⟩
end
theorem ListAll.lst{u:Ty}{R:V->bj->List av->Prop}(hR:∀v d f,R v d f->∀a∈f,∃ys:MuO,H a=cz ys.1):∀{ds:List bj} {xs:List V} {fp:List av},ListAll R xs ds fp->∀a∈fp,∃ys:MuO,H a=cz ys.1
 |[],_,_,h,a,ha=>by rw[h.nil_inv.2]at ha;cases ha
 |d::ds,_,_,h,a,ha=>by
  obtain⟨v,r,f,g,rfl,rfl,h1,h2⟩:=h.cons_inv;rcases ao.mp ha with z|z
  ·exact hR _ _ _ h1 a z
  ·exact ListAll.lst (u:=u) hR h2 a z
mutual
theorem Own.lst:∀(u:Ty) {v:V} {d:bj} {fp:List av},Own K H F u v d fp->∀a∈fp,∃ys:MuO,H a=cz ys.1
 |.i,_,_,_,h,a,ha=>by simp only[Own]at h;rw[h.1]at ha;cases ha
 |.f,_,_,_,h,a,ha=>by simp only[Own]at h;rw[h.1]at ha;cases ha
 |.l u,_,_,_,h,b,hb=>by
  simp only[Own]at h;rcases h with⟨h1,_⟩|⟨a,xs,ds,fs,rfl,h1,rfl,rfl,h2⟩
  ·rw[h1]at hb;cases hb
  ·rcases aD.mp hb with z|z
   ·subst z;exact⟨⟨.lst xs,trivial⟩,h1⟩
   ·exact ListAll.lst (u:=u) (λv d f q=>Own.lst u q) h2 b z
 |.tp us,_,_,_,h,b,hb=>by
  simp only[Own]at h;obtain⟨a,xs,ds,rfl,h1,_,rfl,h2⟩:=h;exact OwnTs.lst us h2 b hb
 |.d kt u,_,_,_,h,b,hb=>by
  simp only[Own]at h;obtain⟨a,es,ds,fs,rfl,h1,rfl,rfl,h3,h2⟩:=h;rcases aD.mp hb with z|z
  ·subst z;exact⟨⟨g9 b es,trivial⟩,h1⟩
  ·exact ListAll.lst (u:=u) (λv d f q=>Own.lst u q) h2 b z
theorem OwnTs.lst:∀(us:List Ty) {xs:List V} {ds:List bj} {fp:List av},OwnTs K H F us xs ds fp->∀a∈fp,∃ys:MuO,H a=cz ys.1
 |[],_,_,_,h,a,ha=>by simp only[OwnTs]at h;rw[h.2.2]at ha;cases ha
 |u::us,_,_,_,h,b,hb=>by
  simp only[OwnTs]at h;obtain⟨v,r,d,e,f,g,rfl,rfl,rfl,h1,h2⟩:=h;rcases ao.mp hb with z|z
  ·exact Own.lst u h1 b z
  ·exact OwnTs.lst us h2 b z
end
def b5V(h:SqT K H a xs)(hF:∀a∈F,∃ys:MuO,H a=cz ys.1):SqT K (cut H F) a xs:=by
 rcases h with (h|⟨o,h⟩)|h
 ·refine .inl (.inl (i9 (λq=>?_) h));obtain⟨⟨ys,my⟩,e⟩:=hF a q;rw[h]at e;have e':=aH e;rw[show ys=_ from e'.symm]at my;exact my
 ·refine .inl (.inr ⟨o,i9 (λq=>?_) h⟩);obtain⟨⟨ys,my⟩,e⟩:=hF a q;rw[h]at e;have e':=aH e;rw[show ys=_ from e'.symm]at my;exact my
 ·exact .inr h
mutual
theorem Den.imm_out(hF:∀a∈F,∃ys:MuO,H a=cz ys.1):∀(d:bj) {v:V},imm d=yn->Den K H v d->Den K (cut H F) v d
 |.none,_,_,h=>by simpa only [Den]using h
 |.bool _,_,_,h=>by simpa only [Den]using h
 |.int _,_,_,h=>by simpa only [Den]using h
 |.str _,_,_,h=>by simpa only [Den]using h
 |.list ds,_,q,_=>by simp only[imm]at q;cases q
 |.tuple ds,_,q,h=>by
  simp only[imm]at q;obtain⟨a,xs,rfl,h1,h2⟩:=h.tup_inv;exact den_tup (b5V h1 hF) (DenAll.imm_out hF ds q h2)
 |.dict _,_,q,_=>by simp only[imm]at q;cases q
theorem DenAll.imm_out(hF:∀a∈F,∃ys:MuO,H a=cz ys.1):∀(ds:List bj) {xs:List V},c9 ds=yn->DenAll K H xs ds->DenAll K (cut H F) xs ds
 |[],_,_,h=>by simpa only [DenAll]using h
 |d::ds,_,q,h=>by
  simp only[c9,aC]at q;obtain⟨v,r,rfl,h1,h2⟩:=h.cons_inv;exact denAll_cons (Den.imm_out hF d q.1 h1) (DenAll.imm_out hF ds q.2 h2)
end
mutual
theorem Own.shut_out(hF:∀a∈F',∃ys:MuO,H a=cz ys.1):∀(u:Ty) {v:V} {d:bj} {fp:List av},u.shut=yn->Own K H F u v d fp->Own K H F' u v d fp
 |.i,_,_,_,_,h=>by simp only[Own]at h ⊢;exact⟨h.1,h.2.1,(h.2.2.up j9).imm_out hF _ h.2.1⟩
 |.f,_,_,_,q,h=>by simp only[Ty.shut]at q;cases q
 |.l u,_,_,_,q,h=>by
  simp only[Ty.shut]at q;simp only[Own]at h ⊢;rcases h with⟨h1,h2,h⟩|⟨a,xs,ds,fs,rfl,h1,rfl,rfl,h2⟩
  ·exact .inl ⟨h1,h2,(h.up j9).imm_out hF _ h2⟩
  ·exact .inr ⟨a,xs,ds,fs,rfl,h1,rfl,rfl,h2.imp λv d f _ _ z=>Own.shut_out hF u q z⟩
 |.tp us,_,_,_,q,h=>by
  simp only[Ty.shut]at q;simp only[Own]at h ⊢;obtain⟨a,xs,ds,rfl,h1,h0,rfl,h2⟩:=h;refine⟨a,xs,ds,rfl,h1,λz=>?_,rfl,OwnTs.shut_out hF us q h2⟩;obtain⟨⟨ys,my⟩,e⟩:=hF a z;rw[h1]at e;have e':=aH e;rw[show ys=_ from e'.symm]at my;exact my
 |.d kt u,_,_,_,q,h=>by
  simp only[Ty.shut]at q;simp only[Own]at h ⊢;obtain⟨a,es,ds,fs,rfl,h1,rfl,rfl,h3,h2⟩:=h;exact⟨a,es,ds,fs,rfl,h1,rfl,rfl,⟨h3.1,λx hx=>⟨(h3.2 x hx).1,((h3.2 x hx).2.up j9).imm_out hF _ (W3 _ (h3.2 x hx).1.1)⟩⟩,h2.imp λv d f _ _ z=>Own.shut_out hF u q z⟩
theorem OwnTs.shut_out(hF:∀a∈F',∃ys:MuO,H a=cz ys.1):∀(us:List Ty) {xs:List V} {ds:List bj} {fp:List av},Ty.shutAll us=yn->OwnTs K H F us xs ds fp->OwnTs K H F' us xs ds fp
 |[],_,_,_,_,h=>by simpa only [OwnTs]using h
 |u::us,_,_,_,q,h=>by
  simp only[Ty.shutAll,aC]at q;simp only[OwnTs]at h ⊢;obtain⟨v,r,d,e,f,g,rfl,rfl,rfl,h1,h2⟩:=h;exact⟨v,r,d,e,f,g,rfl,rfl,rfl,Own.shut_out hF u q.1 h1,OwnTs.shut_out hF us q.2 h2⟩
end
end
end VS
namespace VS
open PySem PySem.Spec L2
open SeqAt in
def items_eqAt{A:bS}{s:ar}{us ws:Array ak}(ra:iZ s.heap us.toList xs as)(rb:iZ s.heap ws.toList ys bs)(ha:aY xs=yn)(hb:aY ys=yn)
  (hu:A.in1.units+min (cW xs) (cW ys)<dQ):∀(k:Nat) (k1:k<us.size) (k2:k<ws.size),EqAt A.in1 s us[k] ws[k] (pairEq xs ys k):=λk k1 k2=>
 eqAt_readsAll xs ys A.in1 s us.toList ws.toList as bs ra rb ha hb hu k k1 k2
open SeqAt in
def a7V{A:bS}{s:ar}(ra:Reads s.heap a da as)(rb:Reads s.heap b db bs)(ha:da.canLay0=yn)(hb:db.canLay0=yn)
  (hu:A.units+min da.depth db.depth<dQ):RcNeAt A s a b (!aF da db):=by
 have u0:=room_here hu;cases ra with
 |dict=>exact nomatch ha
 |none=>cases rb with
  |dict=>exact nomatch hb
  |none=>exact RcNeAt.none_none
  |bool y=>exact RcNeAt.none_bool y
  |int y v=>exact RcNeAt.none_int y v
  |str y v=>exact RcNeAt.none_str y v
  |list c1 c2 c3 c4=>exact RcNeAt.none_list ⟨_,c1,c2,_,c3⟩ u0
  |tuple c1 c2 c3 c4=>exact RcNeAt.none_tuple ⟨_,c1,c2,_,c3⟩ u0
 |bool x=>cases rb with
  |dict=>exact nomatch hb
  |none=>exact RcNeAt.bool_none x
  |bool y=>exact RcNeAt.bool_bool x y
  |int y v=>exact RcNeAt.bool_int x y v
  |str y v=>exact RcNeAt.bool_str x y v
  |list c1 c2 c3 c4=>exact RcNeAt.bool_list x ⟨_,c1,c2,_,c3⟩ u0
  |tuple c1 c2 c3 c4=>exact RcNeAt.bool_tuple x ⟨_,c1,c2,_,c3⟩ u0
 |int x t=>cases rb with
  |dict=>exact nomatch hb
  |none=>exact RcNeAt.int_none x t
  |bool y=>exact RcNeAt.int_bool x t y
  |int y v=>exact RcNeAt.int_int x t y v
  |str y v=>exact RcNeAt.int_str x t y v
  |list c1 c2 c3 c4=>exact RcNeAt.int_list x t ⟨_,c1,c2,_,c3⟩ u0
  |tuple c1 c2 c3 c4=>exact RcNeAt.int_tuple x t ⟨_,c1,c2,_,c3⟩ u0
 |str x t=>cases rb with
  |dict=>exact nomatch hb
  |none=>exact RcNeAt.str_none x t
  |bool y=>exact RcNeAt.str_bool x t y
  |int y v=>exact RcNeAt.str_int x t y v
  |str y v=>exact RcNeAt.str_str x t y v
  |list c1 c2 c3 c4=>exact RcNeAt.str_list x t ⟨_,c1,c2,_,c3⟩ u0
  |tuple c1 c2 c3 c4=>exact RcNeAt.str_tuple x t ⟨_,c1,c2,_,c3⟩ u0
 |@list la oa us na xs fa c1 c2 c3 c4=>
  have sa:s.heap.IsList la us:=⟨oa,c1,c2,na,c3⟩;cases rb with
  |dict=>exact nomatch hb
  |none=>exact RcNeAt.list_none sa u0
  |bool y=>exact RcNeAt.list_bool y sa u0
  |int y v=>exact RcNeAt.list_int y v sa u0
  |str y v=>exact RcNeAt.list_str y v sa u0
  |tuple e1 e2 e3 e4=>exact RcNeAt.list_tuple sa ⟨_,e1,e2,_,e3⟩ u0
  |@list lb ob ws nb ys fb e1 e2 e3 e4=>
   have sb:s.heap.IsList lb ws:=⟨ob,e1,e2,nb,e3⟩;have z1:us.size=xs.length:=by simpa using pB xs _ _ c4
   have z2:ws.size=ys.length:=by simpa using pB ys _ _ e4
   have pr:=items_eqAt c4 e4 ha hb (room_in hu);show RcNeAt A s (.ref la) (.ref lb) (!bN xs ys);by_cases z:us.size=ws.size
   ·rw[<-eqvAll_same_length (show xs.length=ys.length by lia),<-z1];exact RcNeAt.lists sa sb z u0 pr
   ·rw[eqvAll_other_length (show xs.length≠ys.length by lia)];exact RcNeAt.lists_lengths sa sb (bne_iff_ne.mpr z) u0
 |@tuple la oa us na xs fa c1 c2 c3 c4=>
  have sa:s.heap.IsTuple la us:=⟨oa,c1,c2,na,c3⟩;cases rb with
  |dict=>exact nomatch hb
  |none=>exact RcNeAt.tuple_none sa u0
  |bool y=>exact RcNeAt.tuple_bool y sa u0
  |int y v=>exact RcNeAt.tuple_int y v sa u0
  |str y v=>exact RcNeAt.tuple_str y v sa u0
  |list e1 e2 e3 e4=>exact RcNeAt.tuple_list sa ⟨_,e1,e2,_,e3⟩ u0
  |@tuple lb ob ws nb ys fb e1 e2 e3 e4=>
   have sb:s.heap.IsTuple lb ws:=⟨ob,e1,e2,nb,e3⟩;have z1:us.size=xs.length:=by simpa using pB xs _ _ c4
   have z2:ws.size=ys.length:=by simpa using pB ys _ _ e4
   have pr:=items_eqAt c4 e4 ha hb (room_in hu);show RcNeAt A s (.ref la) (.ref lb) (!bN xs ys);rw[<-eqvAll_eq xs ys,<-z1,<-z2];exact RcNeAt.tuples sa sb u0 pr
mutual
theorem Den.reads{X:Cx}{pins:List (av×fY)}{U:St}{H:Hp}{s:ar}(I:Inv X pins U H s):∀(d:bj) {v:V} {u:ak},d.canLay0=yn->Den X.K H v d->RelV v u->∃as,Reads s.heap u d as
 |.none,v,u,_,q,r=>by
  cases q.none_inv
  cases (show u=bw from r)
  exact⟨_,.none⟩
 |.bool b,v,u,_,q,r=>by
  cases q.bool_inv
  cases (show u=mE b from r)
  exact⟨_,.bool b⟩
 |.int i,v,u,_,q,r=>by
  cases q.int_inv
  obtain⟨t,rfl⟩:=r;exact⟨_,.int i t⟩
 |.str x,v,u,_,q,r=>by
  cases q.str_inv
  obtain⟨t,rfl⟩:=r;exact⟨_,.str x t⟩
 |.list ds,v,u,hl,q,r=>by
  obtain⟨a,xs,rfl,h1,h2⟩:=q.list_inv;cases (show u=bM a from r)
  obtain⟨z,its,n,rv,e⟩:=h1.ok I;obtain⟨as,ra⟩:=DenAll.reads I ds hl h2 rv;exact⟨_,.list e rfl rfl (by simpa using ra)⟩
 |.tuple ds,v,u,hl,q,r=>by
  obtain⟨a,xs,rfl,h1,h2⟩:=q.tup_inv;cases (show u=bM a from r)
  obtain⟨its,rv,⟨o,e,c,n,d⟩,_⟩:=I.tuple h1;obtain⟨as,ra⟩:=DenAll.reads I ds hl h2 rv;exact⟨_,.tuple e c d (by simpa using ra)⟩
 |.dict _,_,_,hl,_,_=>nomatch hl
theorem DenAll.reads{X:Cx}{pins:List (av×fY)}{U:St}{H:Hp}{s:ar}(I:Inv X pins U H s):∀(ds:List bj) {xs:List V} {us:List ak},aY ds=yn->DenAll X.K H xs ds->Vals xs us->∃as,iZ s.heap us ds as
 |[],xs,us,_,q,r=>by
  cases q.nil_inv
  cases r
  exact⟨_,.nil⟩
 |d::ds,xs,us,hl,q,r=>by
  have sC:d.canLay0=yn/\aY ds=yn:=by simpa[aY]using hl
  obtain⟨v,rs,rfl,h1,h2⟩:=q.cons_inv;cases r with
  |cons r1 r2=>
   obtain⟨as,ra⟩:=Den.reads I d sC.1 h1 r1;obtain⟨bs,rb⟩:=DenAll.reads I ds sC.2 h2 r2;exact⟨_,.cons ra rb⟩
end
def OpS(X:Cx)(f:ak->ak->Af ak)(g:D->D->Option D):Prop:=
 ∃r,OpR X f r/\∀(x y:V) (H:Hp) (a b d:D) (Q:VK),Den X.K H x a->Den X.K H y b->g a b=cz d->(∀v,imm d=yn->(∀H',Den X.K H' v d)->Q v H)->r x y H Q
noncomputable def a6v(X:Cx)(f:ak)(g:List D->Option D):Prop:=
 ∃r,CallR X f r/\∀(xs:List V) (H:Hp) (ds:List D) (d:D) (Q:VK),DenAll X.K H xs ds->g ds=cz d->(∀v,imm d=yn->(∀H',Den X.K H' v d)->Q v H)->r xs H Q
def d2I(p:Int->Int->Bool)(g:Int->Int->D):D->D->Option D
 |.int a,.int b=>if p a b then cz (g a b) else xn
 |_,_=>xn
def a3a(h:d2I p g a b=cz d):∃i j,a=.int i/\b=.int j/\p i j=yn/\d=g i j:=by
 cases a with
 |int i=>
  cases b with
  |int j=>
   have h':(if p i j=yn then cz (g i j) else xn)=cz d:=h;by_cases c:p i j=yn
   ·rw[aB c]at h';exact⟨i,j,rfl,rfl,c,(aH h').symm⟩
   ·rw[aJ c]at h';cases h'
  |_=>cases h
 |_=>cases h
def pT:Int->Int->Bool:=λ_ _=>yn
abbrev J0:D->D->Option D:=d2I pT λa b=>.int (a+b)
abbrev a3b:D->D->Option D:=d2I pT λa b=>.int (a-b)
def b0X(a b:Int):Bool:=decide (a.natAbs<2^64)||decide (b.natAbs<2^64)
abbrev a0Q:D->D->Option D:=d2I b0X λa b=>.int (a*b)
def b8R(_ b:Int):Bool:=decide (0<b)
abbrev K0:D->D->Option D:=d2I b8R λa b=>.int (a % b)
def b5W(_ b:Int):Bool:=decide (0<b)&&decide (b<1073741824)
abbrev b5X:D->D->Option D:=d2I b5W λa b=>.int (a / b)
def b0Y(a b:Int):Bool:=decide (0<=b)&&decide (b<=1000000)&&decide (a.natAbs<2^64)
abbrev b5Y:D->D->Option D:=d2I b0Y λa b=>.int (a^b.toNat)
abbrev dLt:D->D->Option D:=d2I pT λa b=>.bool (decide (a<b))
abbrev dLe:D->D->Option D:=d2I pT λa b=>.bool (decide (a<=b))
abbrev dGt:D->D->Option D:=d2I pT λa b=>.bool (decide (b<a))
abbrev dGe:D->D->Option D:=d2I pT λa b=>.bool (decide (b<=a))
def b0Z(neg:Bool)(a b:D):Option D:=if a.canLay0&&b.canLay0&&decide (a.depth<=60) then cz (.bool (neg !=aF a b)) else xn
abbrev dEq:D->D->Option D:=b0Z yp
abbrev dNe:D->D->Option D:=b0Z yn
def isN:D->Bool
 |.none=>yn
 |_=>yp
def a7W(neg:Bool)(a b:D):Option D:=if isN b then cz (.bool (neg !=isN a)) else xn
def c2P(neg:Bool):D->D->Option D
 |.bool a,.bool b=>cz (.bool (neg !=(a==b)))
 |_,_=>xn
section
variable {X:Cx}
def b5Z{f:ak->ak->Af ak}{C:Int->Int->Prop}{p:Int->Int->Bool}{g:Int->Int->Int}(ho:OpR X f (rI C λi j=>.int (g i j)))(hp:∀i j,p i j=yn->C i j):OpS X f (d2I p λa b=>.int (g a b)):=by
 refine⟨_,ho,λx y H a b d Q ha hb hg q=>?_⟩;obtain⟨i,j,rfl,rfl,c,rfl⟩:=a3a hg;exact⟨i,j,ha.int_inv,hb.int_inv,hp i j c,q _ (by simp only[imm]) λ_=>den_int⟩
def b7T{f:ak->ak->Af ak}{g:Int->Int->Int}(ho:OpR X f (rI0 λi j=>.int (g i j))):OpS X f (d2I pT λa b=>.int (g a b)):=by
 refine⟨_,ho,λx y H a b d Q ha hb hg q=>?_⟩;obtain⟨i,j,rfl,rfl,c,rfl⟩:=a3a hg;exact⟨i,j,ha.int_inv,hb.int_inv,q _ (by simp only[imm]) λ_=>den_int⟩
def a9v{f:ak->ak->Af ak}{g:Int->Int->Bool}(ho:OpR X f (rI0 λi j=>.bl (g i j))):OpS X f (d2I pT λa b=>.bool (g a b)):=by
 refine⟨_,ho,λx y H a b d Q ha hb hg q=>?_⟩;obtain⟨i,j,rfl,rfl,c,rfl⟩:=a3a hg;exact⟨i,j,ha.int_inv,hb.int_inv,q _ (by simp only[imm]) λ_=>den_bool⟩
def v8:OpS X (gg .Add) J0:=b7T b8D
def W4:OpS X (gg .Sub) a3b:=b7T b8E
def S8:OpS X (gg .Mult) a0Q:=b5Z b8F λi j h=>by
 unfold b0X at h;rw[lA]at h;rcases h with h|h
 ·have:=bz h;exact .inl ⟨by lia,by lia⟩
 ·have:=bz h;exact .inr ⟨by lia,by lia⟩
def x4:OpS X (gg .Mod) K0:=b5Z b8G λi j h=>bz h
def b8S:OpS X (gg .FloorDiv) b5X:=b5Z b5H λi j h=>by
 unfold b5W at h;rw[aC]at h;exact⟨bz h.1,bz h.2⟩
def b2S:OpS X (gg .Pow) b5Y:=b5Z b8H λi j h=>by
 unfold b0Y at h;rw[aC,aC]at h;exact⟨bz h.1.1,bz h.1.2,bz h.2⟩
def c1d:OpS X (cC .Lt) dLt:=a9v c0U
def b7U:OpS X (cC .LtE) dLe:=a9v c0V
def a6w:OpS X (cC .Gt) dGt:=a9v c0W
def c1e:OpS X (cC .GtE) dGe:=a9v c0X
def b8T(K:ag)(neg:Bool):R2:=λx y H Q=>∃d e,Den K H x d/\Den K H y e/\d.canLay0=yn/\e.canLay0=yn/\d.depth<=60/\Q (.bl (neg !=aF d e)) H
def b2T(hu:X.A.units+64<dQ):OpR X (cC .Eq) (b8T X.K yp):=by
 intro pins s U H x y v u Q I rx ry h;obtain⟨d,e,h1,h2,c1,c2,hd,q⟩:=h;obtain⟨as,ra⟩:=Den.reads I d c1 h1 rx;obtain⟨bs,rb⟩:=Den.reads I e c2 h2 ry;refine SeqAt.compareEq_reads ra rb c1 c2 (by have:=ly d.depth e.depth;lia) ?_;exact⟨.bl _,H,I,rfl,by simpa using q⟩
def b2U(hu:X.A.units+64<dQ):OpR X (cC .NotEq) (b8T X.K yn):=by
 intro pins s U H x y v u Q I rx ry h;obtain⟨d,e,h1,h2,c1,c2,hd,q⟩:=h;obtain⟨as,ra⟩:=Den.reads I d c1 h1 rx;obtain⟨bs,rb⟩:=Den.reads I e c2 h2 ry;refine a7V ra rb c1 c2 (by have:=ly d.depth e.depth;lia) _ _ _ _ ?_;exact⟨.bl _,H,I,rfl,by simpa using q⟩
def b2V(ho:OpR X f (b8T X.K neg)):OpS X f (b0Z neg):=by
 refine⟨_,ho,λx y H a b d Q ha hb hg q=>?_⟩;unfold b0Z at hg;by_cases c:(a.canLay0&&b.canLay0&&decide (a.depth<=60))=yn
 ·rw[aB c]at hg;cases hg
  rw[aC,aC]at c;exact⟨a,b,ha,hb,c.1.1,c.1.2,bz c.2,q _ (by simp only[imm]) λ_=>den_bool⟩
 ·rw[aJ c]at hg;cases hg
def os_eq(hu:X.A.units+64<dQ):OpS X (cC .Eq) dEq:=b2V (b2T hu)
def c1f(hu:X.A.units+64<dQ):OpS X (cC .NotEq) dNe:=b2V (b2U hu)
def b2W(h:Den K H x a):decide (x=V.non)=isN a:=by
 cases a with
 |none=>rw[h.none_inv];rfl
 |bool b=>rw[h.bool_inv];rfl
 |int b=>rw[h.int_inv];rfl
 |str b=>rw[h.str_inv];rfl
 |list ds=>obtain⟨a,xs,rfl,_⟩:=h.list_inv;rfl
 |tuple ds=>obtain⟨a,xs,rfl,_⟩:=h.tup_inv;rfl
 |dict kvs=>
  obtain⟨a,es,rfl,_⟩:=h.dict_inv;rfl
def b6a:OpS X (cC .IsNot) (a7W yn):=by
 refine⟨_,b5I,λx y H a b d Q ha hb hg q=>?_⟩;unfold a7W at hg;by_cases c:isN b=yn
 ·rw[aB c]at hg;cases hg
  have e:=b2W hb;rw[c]at e;refine⟨bz e,?_⟩;rw[b2W ha];have:=q (.bl (yn !=isN a)) (by simp only[imm]) λ_=>den_bool
  simpa using this
 ·rw[aJ c]at hg;cases hg
end
inductive Md where
 |dead|own (u:Ty)|exc|keys (kt:Bool)|pin (v:V)|fn (Φ:Hp->V->Prop)
def ExcAt(a C:av):HO:=.ext λh=>∃o,h.get? a=cz o/\o.cls=.ref C
def SlotR(K:ag)(H:Hp)(F:List av)(m:Md)(o:Option V)(d:D)(f:List av):Prop:=
 match m with
 |.dead=>f=[]
 |.own u=>∃v,o=cz v/\Own K H F u v d f
 |.exc=>f=[]/\∃v,o=cz v/\((v=.non/\d=.none)\/∃a C n,v=.ref a/\d=.str n/\cut H F a=cz (ExcAt a C)/\gG K bV n=cz (cz (.ref C)))
 |.keys kt=>f=[]/\∃a es kvs,o=cz (.ref a)/\d=.dict kvs/\cut H F a=cz (g9 a es)/\es.map (·.1)=kvs.map (·.1)/\∀e∈es,keyOk kt e.1/\Den K (cut H F) e.2.1 e.1
 |.pin v=>f=[]/\o=cz v
 |.fn Φ=>f=[]/\∃v,o=cz v/\∀H',Same (cut H F) H'->Φ H' v
def StAll(K:ag)(H:Hp)(F:List av):List Md->List D->L2.St->List av->Prop
 |[],Z,U,fp=>Z=[]/\U=[]/\fp=[]
 |m::M,Z,U,fp=>∃d Z' o U' f g,Z=d::Z'/\U=o::U'/\fp=f++g/\SlotR K H F m o d f/\StAll K H F M Z' U' g
section
variable {K:ag}{H H':Hp}{F F':List av}
theorem SlotR.frame(h:SlotR K H F m o d f)(e:Same (cut H F) (cut H' F'))(k:∀a∈f,H' a=H a):SlotR K H' F' m o d f:=by
 cases m with
 |dead=>exact h
 |own u=>
  obtain⟨v,rfl,h⟩:=h;exact⟨v,rfl,h.frame e u k⟩
 |exc=>
  obtain⟨h0,v,h1,h2⟩:=h;refine⟨h0,v,h1,h2.imp (λz=>z) λ⟨a,C,n,z1,z2,z3,z4⟩=>⟨a,C,n,z1,z2,e _ _ z3,z4⟩⟩
 |keys kt=>
  obtain⟨h0,a,es,kvs,h1,h2,h3,h4,h5⟩:=h;exact⟨h0,a,es,kvs,h1,h2,e _ _ h3,h4,λx hx=>⟨(h5 x hx).1,(h5 x hx).2.up e⟩⟩
 |pin v=>exact h
 |fn Φ=>obtain⟨h0,v,h1,h2⟩:=h;exact⟨h0,v,h1,λH2 e2=>h2 H2 (e.trans e2)⟩
def i7{Z:List D}(h:SlotR K H F m o d f)(q:StAll K H F M Z U g):StAll K H F (m::M) (d::Z) (o::U) (f++g):=by
 simp only[StAll];exact⟨d,Z,o,U,f,g,rfl,rfl,rfl,h,q⟩
def L7:StAll K H F [] [] [] []:=by simp only[StAll];exact⟨trivial,trivial,trivial⟩
theorem StAll.frame:∀{M:List Md} {Z:List D} {U:L2.St} {fp:List av},StAll K H F M Z U fp->Same (cut H F) (cut H' F')->(∀a∈fp,H' a=H a)->StAll K H' F' M Z U fp
 |[],_,_,_,h,_,_=>by simpa only [StAll]using h
 |m::M,_,_,_,h,e,k=>by
  simp only[StAll]at h;obtain⟨d,Z,o,U,f,g,rfl,rfl,rfl,h1,h2⟩:=h;exact i7 (h1.frame e λa ha=>k a (aj _ ha)) (StAll.frame h2 e λa ha=>k a (ah _ ha))
theorem StAll.len:∀{M:List Md} {Z:List D} {U:L2.St} {fp:List av},StAll K H F M Z U fp->Z.length=M.length/\U.length=M.length
 |[],_,_,_,h=>by simp only[StAll]at h;obtain⟨rfl,rfl,_⟩:=h;exact⟨rfl,rfl⟩
 |m::M,_,_,_,h=>by
  simp only[StAll]at h;obtain⟨d,Z,o,U,f,g,rfl,rfl,rfl,_,h2⟩:=h;obtain⟨a,b⟩:=StAll.len h2;exact⟨by rw[aS,aS,a],by rw[aS,aS,b]⟩
theorem StAll.at_:∀{M:List Md} {Z:List D} {U:L2.St} {fp:List av} {i:Nat} {m:Md},StAll K H F M Z U fp->M[i]?=cz m->
  ∃d o f pre post,Z[i]?=cz d/\U[i]?=cz o/\SlotR K H F m o d f/\fp=pre++(f++post)/\
   ∀(H':Hp) (F':List av) (m':Md) (d':D) (o':Option V) (f':List av),(∀a∈pre++post,H' a=H a)->Same (cut H F) (cut H' F')->SlotR K H' F' m' o' d' f'->
    StAll K H' F' (M.set i m') (Z.set i d') (U.set i o') (pre++(f'++post))
 |[],_,_,_,i,m,_,e=>by simp at e
 |m0::M,_,_,_,0,m,h,e=>by
  simp only[StAll]at h;obtain⟨d,Z,o,U,f,g,rfl,rfl,rfl,h1,h2⟩:=h;have:m0=m:=by simpa using e
  subst this;refine⟨d,o,f,[],g,rfl,rfl,h1,rfl,λH' F' m' d' o' f' k e' s=>?_⟩;show StAll K H' F' (m'::M) (d'::Z) (o'::U) (f'++g);exact i7 s (h2.frame e' k)
 |m0::M,_,_,_,i+1,m,h,e=>by
  simp only[StAll]at h;obtain⟨d,Z,o,U,f,g,rfl,rfl,rfl,h1,h2⟩:=h;obtain⟨d1,o1,f1,pre,post,e1,e2,e3,e4,e5⟩:=StAll.at_ (i:=i) h2 (by simpa using e);subst e4;refine⟨d1,o1,f1,f++pre,post,by simpa using e1,by simpa using e2,e3,by rw[aN],λH' F' m' d' o' f' k e' s=>?_⟩;rw[aN];refine i7 (h1.frame e' λa ha=>k a ?_) (e5 H' F' m' d' o' f' (λa ha=>k a ?_) e' s)
  ·rw[aN];exact aj _ ha
  ·rw[aN];exact ah _ ha
end
structure StE (K:ag) (M:List Md) (Z:List D) (U:L2.St) (H P:Hp) (F:List av):Prop where
 all:∃G,StAll K H F M Z U G/\∀a∈G,a∈F
 lst:∀a∈F,∃ys:MuO,H a=cz ys.1
 prot:Same P (cut H F)
structure StR (K:ag) (M:List Md) (Z:List D) (U:L2.St) (H P:Hp) (F:List av):Prop where
 all:∃G,StAll K H F M Z U G/\G.Nodup/\∀a∈G,a∈F
 lst:∀a∈F,∃ys:MuO,H a=cz ys.1
 prot:Same P (cut H F)
section
variable {K:ag}{M:List Md}{Z:List D}{U:L2.St}{H H' P:Hp}{F:List av}
def StR.toE(h:StR K M Z U H P F):StE K M Z U H P F:=⟨let⟨G,a,_,b⟩:=h.all;⟨G,a,b⟩,h.lst,h.prot⟩
def StE.keep(h:StE K M Z U H P F)(e:Same H H'):∀a∈F,H' a=H a:=λa ha=>by
 obtain⟨ys,q⟩:=h.lst a ha;rw[q,e _ _ q]
def StE.lst'(h:StE K M Z U H P F)(e:Same H H'):∀a∈F,∃ys:MuO,H' a=cz ys.1:=λa ha=>by
 obtain⟨ys,q⟩:=h.lst a ha;exact⟨ys,e _ _ q⟩
def P7(e:Same H H')(hf:∀a∈fp,H a=xn):Same (cut H F) (cut H' (fp++F)):=P5 e λa o ha mf=>by
 rcases ao.mp mf with z|z
 ·rw[hf a z]at ha;cases ha
 ·exact z
def StE.more(h:StE K M Z U H P F)(e:Same H H')(hf:∀a∈fp,H a=xn)(hl:∀a∈fp,∃ys:MuO,H' a=cz ys.1):StE K M Z U H' P (fp++F):=by
 obtain⟨G,h1,h3⟩:=h.all;have hc:Same (cut H F) (cut H' (fp++F)):=P7 e hf;refine⟨⟨G,h1.frame hc λa ha=>h.keep e a (h3 a ha),λa ha=>ah _ (h3 a ha)⟩,λa ha=>?_,h.prot.trans hc⟩;rcases ao.mp ha with z|z
 ·exact hl a z
 ·exact h.lst' e a z
def StE.grow(h:StE K M Z U H P F)(e:Same H H'):StE K M Z U H' P F:=h.more (fp:=[]) e (λa ha=>(nomatch ha)) λa ha=>(nomatch ha)
theorem StR.more(h:StR K M Z U H P F)(e:Same H H')(hf:∀a∈fp,H a=xn)(hl:∀a∈fp,∃ys:MuO,H' a=cz ys.1):StR K M Z U H' P (fp++F):=by
 obtain⟨G,h1,h2,h3⟩:=h.all;have S:=h.toE.more e hf hl;exact⟨⟨G,h1.frame (P7 e hf) λa ha=>h.toE.keep e a (h3 a ha),h2,λa ha=>ah _ (h3 a ha)⟩,S.lst,S.prot⟩
def StR.grow(h:StR K M Z U H P F)(e:Same H H'):StR K M Z U H' P F:=h.more (fp:=[]) e (λa ha=>(nomatch ha)) λa ha=>(nomatch ha)
def A1(h:Z[i]?=cz d):Z.getD i x=d:=by rw[af,h];rfl
def StE.get(h:StE K M Z U H P F)(hm:M[i]?=cz (.own u)):∃v f,U[i]?=cz (cz v)/\Own K H F u v (Z.getD i .none) f/\∀a∈f,a∈F:=by
 obtain⟨G,h1,h3⟩:=h.all;obtain⟨d,o,f,pre,post,e1,e2,⟨v,rfl,q⟩,e4,_⟩:=h1.at_ hm;refine⟨v,f,e2,by rw[A1 e1];exact q,λa ha=>h3 a ?_⟩;rw[e4];exact ah _ (aj _ ha)
theorem StAll.pick(h:StAll K H F M Z U G)(hG:∀a∈G,a∈F):∀js:List Nat,∃G',StAll K H F (js.map λj=>M.getD j .dead) (js.map λj=>Z.getD j .none) (js.map λj=>(U[j]?).getD xn) G'/\∀a∈G',a∈F
 |[]=>⟨[],L7,λa ha=>(nomatch ha)⟩
 |j::js=>by
  obtain⟨G',q,hq⟩:=StAll.pick h hG js;cases e:M[j]? with
  |none=>
   refine⟨[]++G',?_,λa ha=>hq a (by simpa using ha)⟩;have:M.getD j .dead=.dead:=by rw[af,e];rfl
   rw[ax,ax,ax,this];exact i7 rfl q
  |some m=>
   obtain⟨d,o,f,pre,post,e1,e2,e3,e4,_⟩:=h.at_ e;refine⟨f++G',?_,λa ha=>?_⟩
   ·rw[ax,ax,ax,show M.getD j .dead=m by rw[af,e];rfl,A1 e1,e2];exact i7 e3 q
   ·rcases ao.mp ha with z|z
    ·exact hG a (by rw[e4];exact ah _ (aj _ z))
    ·exact hq a z
def P8{pre f post:List av}(h:(pre++(f++post)).Nodup):(pre++post).Nodup:=
 h.sublist (jy (fM _) (rh _ _))
def mem_mid{pre f post:List av}{a:av}(h:a∈pre++post):a∈pre++(f++post):=by
 rcases ao.mp h with h|h
 ·exact aj _ h
 ·exact ah _ (ah _ h)
def a1s{pre f post:List av}(h:(pre++post).Nodup)(hf:f.Nodup)(d:∀a∈f,a∉pre++post):(pre++(f++post)).Nodup:=by
 rw[bu]at h ⊢;obtain⟨h1,h2,h3⟩:=h;refine⟨h1,?_,λa ha b hb=>?_⟩
 ·rw[bu];exact⟨hf,h2,λa ha b hb e=>d a ha (e▸ah _ hb)⟩
 ·rcases ao.mp hb with z|z
  ·intro e;exact d b z (e▸aj _ ha)
  ·exact h3 a ha b z
def a5B{pre f post:List av}{a:av}(h:a∈pre++(f++post)):a∈f\/a∈pre++post:=by
 rcases ao.mp h with h|h
 ·exact .inr (aj _ h)
 ·rcases ao.mp h with h|h
  ·exact .inl h
  ·exact .inr (ah _ h)
def a1t{pre f post:List av}(h:(pre++(f++post)).Nodup):∀a∈f,a∉pre++post:=λa ha z=>by
 rw[bu,bu]at h;rcases ao.mp z with z|z
 ·exact h.2.2 a z a (aj _ ha) rfl
 ·exact h.2.1.2.2 a ha a z rfl
theorem StR.set{H1:Hp}{i:Nat}{m:Md}{u:Ty}{v:V}{d:D}{fp:List av}(h:StR K M Z U H P F)(hm:M[i]?=cz m)(e:Same H H1)(hv:Own K H1 (fp++F) u v d fp)(hn:fp.Nodup)(hf:∀a∈fp,H a=xn) :
  StR K (M.set i (.own u)) (Z.set i d) (U.set i (cz v)) H1 P (fp++F):=by
 obtain⟨G,h1,h2,h3⟩:=h.all;have S:=h.more e hf (hv.lst u);obtain⟨d0,o,f,pre,post,e1,e2,e3,e4,e5⟩:=h1.at_ hm;have mw:=h2;rw[e4]at mw;have hG:∀a∈pre++post,a∈F:=λa ha=>h3 a (by rw[e4];exact mem_mid ha)
 have hc:Same (cut H F) (cut H1 (fp++F)):=P5 e λa o ha mf=>by
  rcases ao.mp mf with z|z
  ·rw[hf a z]at ha;cases ha
  ·exact z
 refine⟨⟨pre++(fp++post),e5 H1 _ (.own u) d (cz v) fp (λa ha=>h.toE.keep e a (hG a ha)) hc ⟨v,rfl,hv⟩,a1s (P8 mw) hn λa ha z=>?_,λa ha=>?_⟩,S.lst,S.prot⟩
 ·obtain⟨ys,q⟩:=h.lst a (hG a z);rw[hf a ha]at q;cases q
 ·rcases a5B ha with z|z
  ·exact aj _ z
  ·exact ah _ (hG a z)
def StR.kill{i:Nat}{m:Md}(h:StR K M Z U H P F)(hm:M[i]?=cz m)(d:D)(o:Option V):StR K (M.set i .dead) (Z.set i d) (U.set i o) H P F:=by
 obtain⟨G,h1,h2,h3⟩:=h.all;obtain⟨d0,o0,f,pre,post,e1,e2,e3,e4,e5⟩:=h1.at_ hm;rw[e4]at h2;exact⟨⟨pre++([]++post),e5 H F .dead d o [] (λ_ _=>rfl) (Same.refl _) rfl,P8 h2,λa ha=>h3 a (by rw[e4];exact mem_mid ha)⟩,h.lst,h.prot⟩
def set_same{α:Type}{l:List α}{i:Nat}{x:α}(h:l[i]?=cz x):l.set i x=l:=kj λj=>by
 rw[List.getElem?_set]
 split
 ·next hj=>
  subst hj
  split
  ·exact h.symm
  ·next hh=>exact (iJ (by lia)).symm
 ·rfl
theorem StR.dead{i:Nat}{m:Md}(h:StR K M Z U H P F)(hm:M[i]?=cz m):StR K (M.set i .dead) Z U H P F:=by
 obtain⟨G,h1,_⟩:=h.all;obtain⟨d0,o0,f,pre,post,e1,e2,_⟩:=h1.at_ hm;have:=h.kill hm d0 o0
 rwa[set_same e1,set_same e2]at this
def Own.freeze(h:Own K H F u v d fp)(hs:∀a∈F',a∈F)(hd:∀a∈fp,a∉F'):Own K H F' .f v d []:=by
 have key:∀(u:Ty) {v:V} {d:D} {fp:List av},Own K H F u v d fp->(∀a∈fp,a∉F')->Den K (cut H F') v d:=by
  intro u;refine Ty.rec (motive_1:=λu=>∀{v:V} {d:D} {fp:List av},Own K H F u v d fp->(∀a∈fp,a∉F')->Den K (cut H F') v d)
   (motive_2:=λus=>∀{xs:List V} {ds:List D} {fp:List av},OwnTs K H F us xs ds fp->(∀a∈fp,a∉F')->DenAll K (cut H F') xs ds) ?_ ?_ ?_ ?_ ?_ ?_ ?_ u
  ·intro v d fp h _;simp only[Own]at h;exact h.2.2.up (D6 hs)
  ·intro v d fp h _;simp only[Own]at h;exact h.2.up (D6 hs)
  ·intro u ih v d fp h hd;simp only[Own]at h;rcases h with⟨_,_,h⟩|⟨a,xs,ds,fs,rfl,h1,rfl,rfl,h2⟩
   ·exact h.up (D6 hs)
   ·refine den_list (.inl (.inl (i9 (hd a aL) h1))) (ListAll.den (R:=λv d f=>Own K H F u v d f/\∀a∈f,a∉F') (λv d f q=>ih q.1 q.2) (h2.imp λv d f hf _ q=>⟨q,λb hb=>hd b (aw _ (hf b hb))⟩))
  ·intro us ih v d fp h hd;simp only[Own]at h;obtain⟨a,xs,ds,rfl,h1,h0,rfl,h2⟩:=h;exact den_tup (SqT.of (i9 (λz=>h0 (hs a z)) h1)) (ih h2 hd)
  ·intro kt u ih v d fp h hd;simp only[Own]at h;obtain⟨a,es,ds,fs,rfl,h1,rfl,rfl,h3,h2⟩:=h;exact a4M (i9 (hd a aL) h1) (λe he=>(h3.2 e he).2.up (D6 hs)) (ListAll.den (R:=λv d f=>Own K H F u v d f/\∀a∈f,a∉F') (λv d f q=>ih q.1 q.2) (h2.imp λv d f hf _ q=>⟨q,λb hb=>hd b (aw _ (hf b hb))⟩))
  ·intro xs ds fp h _;simp only[OwnTs]at h;obtain⟨rfl,rfl,_⟩:=h;exact denAll_nil
  ·intro u us yC yB xs ds fp h hd;simp only[OwnTs]at h;obtain⟨v,r,d,e,f,g,rfl,rfl,rfl,h1,h2⟩:=h;exact denAll_cons (yC h1 λa ha=>hd a (aj _ ha)) (yB h2 λa ha=>hd a (ah _ ha))
 simp only[Own];exact⟨trivial,key u h hd⟩
theorem StR.freeze{i:Nat}{u:Ty}(h:StR K M Z U H P F)(hm:M[i]?=cz (.own u)):∃F',StR K (M.set i (.own .f)) Z U H P F':=by
 obtain⟨G,h1,h2,h3⟩:=h.all;obtain⟨d,o,f,pre,post,e1,e2,⟨v,rfl,e3⟩,e4,e5⟩:=h1.at_ hm;rw[e4]at h2;have jB:∀a∈F.filter (λa=>decide (a∉f)),a∈F:=λa ha=>(fF.mp ha).1
 have tK:∀a∈f,a∉F.filter (λa=>decide (a∉f)):=λa ha z=>absurd ha (bz (fF.mp z).2)
 have hc:Same (cut H F) (cut H (F.filter (λa=>decide (a∉f)))):=D6 jB;have q:=e5 H _ (.own .f) d (cz v) [] (λ_ _=>rfl) hc ⟨v,rfl,e3.freeze jB tK⟩;rw[set_same e1,set_same e2]at q;refine⟨_,⟨_,q,P8 h2,λa ha=>fF.mpr ⟨h3 a (by rw[e4];exact mem_mid ha),aW λz=>a1t h2 a z ha⟩⟩,λa ha=>h.lst a (jB a ha),h.prot.trans hc⟩
end
inductive Cat where
 |new (u:Ty)|bor (u:Ty)|tmp
def ResR(K:ag)(c:Cat)(H H':Hp)(F:List av)(v:V)(d:D):Prop:=
 match c with
 |.new u=>∃fp,Own K H' (fp++F) u v d fp/\fp.Nodup/\∀a∈fp,H a=xn
 |.bor u=>∃fp,Own K H' F u v d fp/\∀a∈fp,a∈F
 |.tmp=>Den K H' v d
section
variable {K:ag}{c:Cat}{H H0 H' H1 H2:Hp}{F:List av}{v:V}{d:D}
theorem ResR.den(r:ResR K c H H' F v d):Den K H' v d:=by
 cases c with
 |new u=>obtain⟨fp,h,_⟩:=r;exact h.den u
 |bor u=>obtain⟨fp,h,_⟩:=r;exact h.den u
 |tmp=>exact r
def Own.grow(h:Own K H1 F u v d fp)(e:Same H1 H2):Own K H2 F u v d fp:=
 h.frame (P6 e) u λa ha=>by obtain⟨ys,q⟩:=h.lst u a ha;rw[q,e _ _ q]
theorem ResR.up(r:ResR K c H H1 F v d)(e:Same H1 H2):ResR K c H H2 F v d:=by
 cases c with
 |new u=>obtain⟨fp,h,q⟩:=r;exact⟨fp,h.grow e,q⟩
 |bor u=>obtain⟨fp,h,q⟩:=r;exact⟨fp,h.grow e,q⟩
 |tmp=>exact Den.up r e
def ResR.early(r:ResR K c H H1 F v d)(e:Same H0 H):ResR K c H0 H1 F v d:=by
 cases c with
 |new u=>obtain⟨fp,h,n,q⟩:=r;exact⟨fp,h,n,λa ha=>e.free (q a ha)⟩
 |bor u=>exact r
 |tmp=>exact r
def O1(hi:imm d=yn)(hd:Den K H' v d)(hF:∀a∈F,∃ys:MuO,H' a=cz ys.1):ResR K (.new .i) H H' F v d:=by
 refine⟨[],?_,bD,λa ha=>(nomatch ha)⟩;simp only[Own,bx];exact⟨trivial,hi,hd.imm_out hF d hi⟩
def a2a(h:Own K H F .i v d fp):fp=[]/\imm d=yn/\Den K (cut H F) v d:=by simpa only [Own]using h
def a9w(h:Own K H F .f v d fp):fp=[]/\Den K (cut H F) v d:=by simpa only [Own]using h
end
abbrev EvE:=List D->Option D
abbrev EvT:=List D->Option Bool
noncomputable def spE(K:ag)(M:List Md)(f:EvE)(c:Cat):TE:=λU H Q=>∃(Z:List D) (P:Hp) (F:List av) (d:D),StE K M Z U H P F/\f Z=cz d/\∀v H',Same H H'->ResR K c H H' F v d->Q v H'
noncomputable def PX(X:Cx)(M:List Md)(e:Expr)(f:EvE)(c:Cat):Prop:=PE X e (spE X.K M f c)
def PX.out{X:Cx}{M:List Md}{e:Expr}{f:EvE}{c:Cat}(h:PX X M e f c) :
  ∃t,PE X e t/\∀(Z:List D) (U:L2.St) (H P:Hp) (F:List av) (d:D) (Q:VK),StE X.K M Z U H P F->f Z=cz d->(∀v H',Same H H'->ResR X.K c H H' F v d->Q v H')->t U H Q:=
 ⟨_,h,λZ _ _ P F d _ S hf q=>⟨Z,P,F,d,S,hf,q⟩⟩
def PX.mk{X:Cx}{M:List Md}{e:Expr}{f:EvE}{c:Cat}
  (h:∃t,PE X e t/\∀(Z:List D) (U:L2.St) (H P:Hp) (F:List av) (d:D) (Q:VK),StE X.K M Z U H P F->f Z=cz d->(∀v H',Same H H'->ResR X.K c H H' F v d->Q v H')->t U H Q):PX X M e f c:=by
 obtain⟨t,p,q⟩:=h;exact λpins s U H Q I ⟨Z,P,F,d,S,hf,z⟩=>p pins s U H Q I (q Z U H P F d Q S hf z)
noncomputable def spT(K:ag)(M:List Md)(g:EvT):TT:=λU H Q=>∃(Z:List D) (P:Hp) (F:List av) (b:Bool),StE K M Z U H P F/\g Z=cz b/\∀H',Same H H'->Q b H'
noncomputable def PTX(X:Cx)(M:List Md)(e:Expr)(g:EvT):Prop:=PT X e (spT X.K M g)
def PTX.out{X:Cx}{M:List Md}{e:Expr}{g:EvT}(h:PTX X M e g) :
  ∃t,PT X e t/\∀(Z:List D) (U:L2.St) (H P:Hp) (F:List av) (b:Bool) (Q:Bool->Hp->Prop),StE X.K M Z U H P F->g Z=cz b->(∀H',Same H H'->Q b H')->t U H Q:=
 ⟨_,h,λZ _ _ P F b _ S hf q=>⟨Z,P,F,b,S,hf,q⟩⟩
def PTX.mk{X:Cx}{M:List Md}{e:Expr}{g:EvT}
  (h:∃t,PT X e t/\∀(Z:List D) (U:L2.St) (H P:Hp) (F:List av) (b:Bool) (Q:Bool->Hp->Prop),StE X.K M Z U H P F->g Z=cz b->(∀H',Same H H'->Q b H')->t U H Q):PTX X M e g:=by
 obtain⟨t,p,q⟩:=h;exact λpins s U H Q I ⟨Z,P,F,d,S,hf,z⟩=>p pins s U H Q I (q Z U H P F d Q S hf z)
noncomputable def PWX(X:Cx)(M:List Md)(e:Expr)(g:EvT):Prop:=PW X e (spT X.K M g)
def PWX.out{X:Cx}{M:List Md}{e:Expr}{g:EvT}(h:PWX X M e g) :
  ∃t,PW X e t/\∀(Z:List D) (U:L2.St) (H P:Hp) (F:List av) (b:Bool) (Q:Bool->Hp->Prop),StE X.K M Z U H P F->g Z=cz b->(∀H',Same H H'->Q b H')->t U H Q:=
 ⟨_,h,λZ _ _ P F b _ S hf q=>⟨Z,P,F,b,S,hf,q⟩⟩
def PWX.mk{X:Cx}{M:List Md}{e:Expr}{g:EvT}
  (h:∃t,PW X e t/\∀(Z:List D) (U:L2.St) (H P:Hp) (F:List av) (b:Bool) (Q:Bool->Hp->Prop),StE X.K M Z U H P F->g Z=cz b->(∀H',Same H H'->Q b H')->t U H Q):PWX X M e g:=by
 obtain⟨t,p,q⟩:=h;exact λwhole pins s U H Q I ⟨Z,P,F,d,S,hf,z⟩=>p whole pins s U H Q I (q Z U H P F d Q S hf z)
abbrev EvA:=List D->Option (List D)
noncomputable def PAX(X:Cx)(M:List Md)(es:List Expr)(f:EvA):Prop:=
 ∃t,PA X es t/\∀(Z:List D) (U:L2.St) (H P:Hp) (F:List av) (ds:List D) (Q:List V->Hp->Prop),StE X.K M Z U H P F->f Z=cz ds->(∀vs H',Same H H'->DenAll X.K H' vs ds->Q vs H')->t U H Q
noncomputable def PAN(X:Cx)(M:List Md)(es:List Expr)(f:EvA)(us:List Ty):Prop:=
 ∃t,PA X es t/\∀(Z:List D) (U:L2.St) (H P:Hp) (F:List av) (ds:List D) (Q:List V->Hp->Prop),StE X.K M Z U H P F->f Z=cz ds->
  (∀vs H' fp,Same H H'->OwnTs X.K H' (fp++F) us vs ds fp->fp.Nodup->(∀a∈fp,H a=xn)->Q vs H')->t U H Q
noncomputable def a6(i:Nat):EvE:=λZ=>cz (Z.getD i .none)
noncomputable def eC(d:D):EvE:=λ_=>cz d
noncomputable def e1(g:D->Option D)(a:EvE):EvE:=λZ=>(a Z).bind g
noncomputable def e2(g:D->D->Option D)(a b:EvE):EvE:=λZ=>(a Z).bind λx=>(b Z).bind λy=>g x y
def asB:D->Option Bool
 |.bool b=>cz b
 |_=>xn
noncomputable def b6b(a b:EvE):EvE:=λZ=>(a Z).bind λx=>(asB x).bind λk=>if k then b Z else cz (.bool yp)
noncomputable def eOr(a b:EvE):EvE:=λZ=>(a Z).bind λx=>(asB x).bind λk=>if k then cz (.bool yn) else b Z
noncomputable def b6c(a:EvE):EvE:=λZ=>(a Z).bind λx=>(asB x).bind λk=>cz (.bool !k)
noncomputable def eIf(c:EvT)(a b:EvE):EvE:=λZ=>(c Z).bind λk=>if k then a Z else b Z
noncomputable def eCh(g g':D->D->Option D)(a b c:EvE):EvE:=λZ=>(a Z).bind λx=>(b Z).bind λy=>(g x y).bind λz=>(asB z).bind λk=>if k then (c Z).bind λw=>g' y w else cz (.bool yp)
def tr:D->Option Bool
 |.none=>cz yp
 |.bool b=>cz b
 |.int i=>cz (i !=0)
 |.str x=>if x.length<=aZ then cz ((x.length:Int)!=0) else xn
 |.list ds=>cz !ds.isEmpty
 |.tuple ds=>cz !ds.isEmpty
 |.dict _=>xn
noncomputable def tV(a:EvE):EvT:=λZ=>(a Z).bind tr
noncomputable def tB(a:EvE):EvT:=λZ=>(a Z).bind asB
noncomputable def tNo(a:EvT):EvT:=λZ=>(a Z).bind λk=>cz !k
noncomputable def tAn(a b:EvT):EvT:=λZ=>(a Z).bind λk=>if k then b Z else cz yp
noncomputable def P9(a b:EvT):EvT:=λZ=>(a Z).bind λk=>if k then cz yn else b Z
def c6:List D->Option (List D):=λ_=>cz []
noncomputable def a7(a:EvE)(r:List D->Option (List D)):List D->Option (List D):=λZ=>(a Z).bind λx=>(r Z).bind λxs=>cz (x::xs)
def Q0(h:asB d=cz k):d=.bool k:=by
 cases d with
 |bool b=>cases h;rfl
 |_=>cases h
def bnd{α β:Type}{o:Option α}{f:α->Option β}{b:β}(h:o.bind f=cz b):∃a,o=cz a/\f a=cz b:=Option.bind_eq_some_iff.mp h
section
variable {X:Cx}{M:List Md}{a b e e':Expr}{es rest:List Expr}{f g fa fb fc:EvE}{ga gb:EvT}{c ca cb cc:Cat}{u:Ty}{us:List Ty}{pos:fW}
def PX.imp(h:PX X M e f c)(k:∀(K:ag) (H H':Hp) (F:List av) (v:V) (d:D),(∀a∈F,∃ys:MuO,H a=cz ys.1)->Same H H'->ResR K c H H' F v d->ResR K c' H H' F v d):PX X M e f c':=by
 obtain⟨t,p,q⟩:=h.out;exact .mk ⟨t,p,λZ U H P F d Q S hf z=>q Z U H P F d Q S hf λv H' e r=>z v H' e (k _ _ _ _ _ _ S.lst e r)⟩
def PX.newf(h:PX X M e f (.bor .f)):PX X M e f (.new .f):=h.imp λK H H' F v d _ _ ⟨fp,o,_⟩=>by
 obtain⟨rfl,_⟩:=a9w o;exact⟨[],o,bD,λa ha=>(nomatch ha)⟩
def PX.newi(h:PX X M e f (.bor .i)):PX X M e f (.new .i):=h.imp λK H H' F v d _ _ ⟨fp,o,_⟩=>by
 obtain⟨rfl,_⟩:=a2a o;exact⟨[],o,bD,λa ha=>(nomatch ha)⟩
def PX.itol(h:PX X M e f (.new .i)):PX X M e f (.new (.l u)):=h.imp λK H H' F v d _ _ ⟨fp,o,n,z⟩=>by
 obtain⟨rfl,w,q⟩:=a2a o;refine⟨[],?_,n,z⟩;simp only[Own];exact .inl ⟨trivial,w,q⟩
def PX.frz(h:PX X M e f (.new u)):PX X M e f (.new .f):=h.imp λK H H' F v d hF _ ⟨fp,o,n,z⟩=>by
 refine⟨[],o.freeze (λa ha=>ah _ (by simpa using ha)) (λa ha uP=>?_),bD,λa ha=>(nomatch ha)⟩;obtain⟨ys,q⟩:=hF a (by simpa using uP);rw[z a ha]at q;cases q
def n6(i:Nat)(hN:X.N[i]?=cz x:=by rfl)(hv:autoParam (Vis X.env.scope x) ZY._auto_1)(hd:autoParam ((x==("__debug__":bE))=yp) ZV._auto_1)
  (iC:autoParam ((x==("__classdict__":bE))=yp) ZV._auto_1) (hm:M[i]?=cz (.own u):=by rfl):PX X M (.Name x pos) (a6 i) (.bor u):=by
 refine .mk ⟨_,y8 hN hv hd iC,λZ U H P F d Q S hf q=>?_⟩;cases hf
 obtain⟨v,fp,e,o,sub⟩:=S.get hm;exact⟨v,e,q v H (Same.refl _) ⟨fp,o,sub⟩⟩
def a0R(h:PE X e (tC v))(hi:imm d=yn)(hd:∀H,Den X.K H v d):PX X M e (eC d) (.new .i):=by
 refine .mk ⟨_,h,λZ U H P F d' Q S hf q=>?_⟩;cases hf
 exact q v H (Same.refl _) (O1 hi (hd H) S.lst)
def b8{i j}:PX X M (.Constant (.int i) j pos) (eC (.int i)) (.new .i):=a0R a7J (by simp only[imm]) λ_=>den_int
def Q1{k j}:PX X M (.Constant (.bool k) j pos) (eC (.bool k)) (.new .i):=a0R c0I (by simp only[imm]) λ_=>den_bool
def b2X{j}:PX X M (.Constant .none j pos) (eC .none) (.new .i):=a0R b8n (by simp only[imm]) λ_=>den_none
def a9x(hm:∃t,X.mg x=cz (.int i t))(hg:Gl X x:=by rfl)(hd:autoParam ((x==("__debug__":bE))=yp) ZV._auto_1):PX X M (.Name x pos) (eC (.int i)) (.new .i):=by
 obtain⟨t,hm⟩:=hm;exact a0R (a9p (v:=.int i) hg hm ⟨_,rfl⟩ hd) (by simp only[imm]) λ_=>den_int
def D7{g:D->D->Option D}{Z:List D}{d:D}(h:e2 g fa fb Z=cz d):∃x y,fa Z=cz x/\fb Z=cz y/\g x y=cz d:=by
 obtain⟨x,h1,h⟩:=bnd h;obtain⟨y,h2,h⟩:=bnd h;exact⟨x,y,h1,h2,h⟩
def j6{g:D->D->Option D}(ho:OpS X (gg op) g)(ha:PX X M a fa ca)(hb:PX X M b fb cb):PX X M (.BinOp a op b pos) (e2 g fa fb) (.new .i):=by
 obtain⟨r,hr,hs⟩:=ho;obtain⟨ta,pa,qa⟩:=ha.out;obtain⟨tb,pb,qb⟩:=hb.out;refine .mk ⟨_,b7P hr pa pb,λZ U H P F d Q S hf q=>?_⟩;obtain⟨x,y,h1,h2,h3⟩:=D7 hf;exact qa Z U H P F x _ S h1 λv H1 e1 r1=>qb Z U H1 P F y _ (S.grow e1) h2 λw H2 e2 r2=>hs v w H2 x y d Q (r1.den.up e2) r2.den h3 λz hi hd=>q z H2 (e1.trans e2) (O1 hi (hd H2) (S.lst' (e1.trans e2)))
def b2Y{g:D->D->Option D}(ho:OpS X (cC op) g)(ha:PX X M a fa ca)(hb:PX X M b fb cb)(hm:ik op b=yp:=by first|exact a7N _|with_unfolding_all rfl):PX X M (.Compare a [op] [b] pos) (e2 g fa fb) (.new .i):=by
 obtain⟨r,hr,hs⟩:=ho;obtain⟨ta,pa,qa⟩:=ha.out;obtain⟨tb,pb,qb⟩:=hb.out;refine .mk ⟨_,b5J hr pa pb hm,λZ U H P F d Q S hf q=>?_⟩;obtain⟨x,y,h1,h2,h3⟩:=D7 hf;exact qa Z U H P F x _ S h1 λv H1 e1 r1=>qb Z U H1 P F y _ (S.grow e1) h2 λw H2 e2 r2=>hs v w H2 x y d Q (r1.den.up e2) r2.den h3 λz hi hd=>q z H2 (e1.trans e2) (O1 hi (hd H2) (S.lst' (e1.trans e2)))
def p8{op:CmpOp}{g:D->D->Option D}(ho:OpS X (cC op) g)(ha:PX X M a fa ca)(hb:PX X M b fb cb)(hm:ik op b=yp:=by first|exact a7N _|with_unfolding_all rfl):PTX X M (.Compare a [op] [b] pos) (tB (e2 g fa fb)):=by
 obtain⟨r,hr,hs⟩:=ho;obtain⟨ta,pa,qa⟩:=ha.out;obtain⟨tb,pb,qb⟩:=hb.out;refine .mk ⟨_,a9s hr pa pb hm,λZ U H P F k Q S hf q=>?_⟩;obtain⟨d,hf,hk⟩:=bnd hf;cases Q0 hk
 obtain⟨x,y,h1,h2,h3⟩:=D7 hf;exact qa Z U H P F x _ S h1 λv H1 e1 r1=>qb Z U H1 P F y _ (S.grow e1) h2 λw H2 e2 r2=>hs v w H2 x y _ _ (r1.den.up e2) r2.den h3 λz hi hd=>⟨k,(hd H2).bool_inv,q H2 (e1.trans e2)⟩
def b1a{op uw:CmpOp}{g g':D->D->Option D}{c0:Expr}(ho:OpS X (cC op) g)(pH:OpS X (cC uw) g')(ha:PX X M a fa ca)(hb:PX X M b fb cb)(hc:PX X M c0 fc cc)(hm:lastMarks [op,uw] [b,c0]=yp:=by with_unfolding_all rfl) :
  PTX X M (.Compare a [op,uw] [b,c0] pos) (tB (eCh g g' fa fb fc)):=by
 obtain⟨r,hr,hs⟩:=ho;obtain⟨r',uF,jf⟩:=pH;obtain⟨ta,pa,qa⟩:=ha.out;obtain⟨tb,pb,qb⟩:=hb.out;obtain⟨tc,pc,qc⟩:=hc.out;refine .mk ⟨_,b2I hr uF pa pb pc hm,λZ U H P F k0 Q S hf q=>?_⟩;obtain⟨d,hf,hk⟩:=bnd hf;cases Q0 hk
 obtain⟨x,h1,hf⟩:=bnd hf;obtain⟨y,h2,hf⟩:=bnd hf;obtain⟨z,h3,hf⟩:=bnd hf;obtain⟨k,h4,hf⟩:=bnd hf;cases Q0 h4
 refine qa Z U H P F x _ S h1 λv H1 e1 r1=>qb Z U H1 P F y _ (S.grow e1) h2 λw H2 e2 r2=>hs v w H2 x y _ _ (r1.den.up e2) r2.den h3 λz hi hd=>⟨k,(hd H2).bool_inv,?_⟩
 cases k with
 |false=>
  have qB:k0=yp:=by injection (aH hf).symm
  subst qB;exact a7T ⟨yp,rfl,q H2 (e1.trans e2)⟩
 |true=>
  obtain⟨w',h5,hf⟩:=bnd (show (fc Z).bind (λw=>g' y w)=cz (.bool k0) from hf);exact a5x (qc Z U H2 P F w' _ (S.grow (e1.trans e2)) h5 λw3 H3 e3 r3=>jf w w3 H3 y w' _ _ (r2.den.up e3) r3.den hf λz hi hd=>⟨k0,(hd H3).bool_inv,q H3 ((e1.trans e2).trans e3)⟩)
def b2Z(h:PX X M a f c):PX X M (.BoolOp op [a] pos) f c:=by
 obtain⟨t,p,q⟩:=h.out;exact .mk ⟨t,b8q p,q⟩
def b8U(ha:PX X M a fa ca)(hb:PX X M (.BoolOp .And (b::rest) pos) fb (.new .i)):PX X M (.BoolOp .And (a::b::rest) pos) (b6b fa fb) (.new .i):=by
 obtain⟨ta,pa,qa⟩:=ha.out;obtain⟨tb,pb,qb⟩:=hb.out;refine .mk ⟨_,b8r pa pb,λZ U H P F d Q S hf q=>?_⟩;obtain⟨x,h1,hf⟩:=bnd hf;obtain⟨k,h2,hf⟩:=bnd hf;cases Q0 h2
 refine qa Z U H P F _ _ S h1 λv H1 e1 r1=>⟨k,r1.den.bool_inv,?_⟩
 cases k with
 |false=>
  have qB:d=.bool yp:=(aH hf).symm;subst qB;exact a7T (q _ H1 e1 (O1 (by simp only[imm]) den_bool (S.lst' e1)))
 |true=>exact a5x (qb Z U H1 P F d Q (S.grow e1) hf λw H2 e2 r2=>q w H2 (e1.trans e2) (r2.early e1))
def b8V(ha:PX X M a fa ca):PX X M (.UnaryOp .Not a pos) (b6c fa) (.new .i):=by
 obtain⟨ta,pa,qa⟩:=ha.out;refine .mk ⟨_,b8s pa,λZ U H P F d Q S hf q=>?_⟩;obtain⟨x,h1,hf⟩:=bnd hf;obtain⟨k,h2,hf⟩:=bnd hf;cases Q0 h2
 cases hf
 exact qa Z U H P F _ _ S h1 λv H1 e1 r1=>⟨k,r1.den.bool_inv,q _ H1 e1 (O1 (by simp only[imm]) den_bool (S.lst' e1))⟩
def a0y:PX X M (.UnaryOp .USub (.Constant (.int i) j p) pos) (eC (.int (-i))) (.new .i):=by
 refine .mk ⟨_,c0S b8I a7J,λZ U H P F d Q S hf q=>?_⟩;cases hf
 exact⟨i,rfl,q _ H (Same.refl _) (O1 (by simp only[imm]) den_int S.lst)⟩
def b3a(h:Den K H v d)(ht:tr d=cz k):b5K K v H k:=by
 cases d with
 |none=>cases h.none_inv;cases ht;exact rfl
 |bool b=>cases h.bool_inv;cases ht;exact rfl
 |int i=>cases h.int_inv;cases ht;exact rfl
 |str x=>
  cases h.str_inv
  replace ht:(if x.length<=aZ then cz ((x.length:Int)!=0) else xn)=cz k:=ht
  by_cases z:x.length<=aZ
  ·rw[aB z]at ht;cases ht
   exact⟨z,rfl⟩
  ·rw[aJ z]at ht;cases ht
 |list ds=>
  obtain⟨a,xs,rfl,h1,h2⟩:=h.list_inv;cases ht
  refine .inl ⟨xs,h1.l,?_⟩;have:=h2.length;cases xs<;>cases ds<;>simp_all
 |tuple ds=>
  obtain⟨a,xs,rfl,h1,h2⟩:=h.tup_inv;cases ht
  refine .inr (.inl ⟨xs,h1,?_⟩);have:=h2.length;cases xs<;>cases ds<;>simp_all
 |dict kvs=>cases ht
def G9(ha:PX X M a fa ca)(he:∀whole,CJ a X.env whole=(do let v <-whole;Cn a.pos;oq [v] (truthy v)):=by intro _;rfl):PTX X M a (tV fa):=by
 obtain⟨ta,pa,qa⟩:=ha.out;refine .mk ⟨_,b2K pa he,λZ U H P F k Q S hf q=>?_⟩;obtain⟨x,h1,hf⟩:=bnd hf;exact qa Z U H P F _ _ S h1 λv H1 e1 r1=>⟨k,b3a r1.den hf,q H1 e1⟩
def K7(h:PTX X M a ga):PTX X M (.UnaryOp .Not a pos) (tNo ga):=by
 obtain⟨ta,pa,qa⟩:=h.out;refine .mk ⟨_,b8p pa,λZ U H P F k Q S hf q=>?_⟩;obtain⟨x,h1,hf⟩:=bnd hf;cases hf
 exact qa Z U H P F _ _ S h1 λH1 e1=>q H1 e1
theorem PWX.pt(h:PWX X M e ga):PTX X M e ga:=by
 obtain⟨t,p,q⟩:=h.out;exact .mk ⟨t,p.pt,q⟩
def S9(h:PTX X M a ga):PWX X M (.BoolOp .Or [a] pos) ga:=by
 obtain⟨t,p,q⟩:=h.out;exact .mk ⟨t,b8o p,q⟩
def O8(ha:PTX X M a ga)(hb:PWX X M (.BoolOp .Or (b::rest) pos) gb):PWX X M (.BoolOp .Or (a::b::rest) pos) (P9 ga gb):=by
 obtain⟨ta,pa,qa⟩:=ha.out;obtain⟨tb,pb,qb⟩:=hb.out;refine .mk ⟨_,c0J pa pb,λZ U H P F k Q S hf q=>?_⟩;obtain⟨x,h1,hf⟩:=bnd hf;refine qa Z U H P F _ _ S h1 λH1 e1=>?_
 cases x with
 |true=>cases hf;exact a5x (q H1 e1)
 |false=>exact a7T (qb Z U H1 P F k Q (S.grow e1) hf λH2 e2=>q H2 (e1.trans e2))
def c8:PAX X M [] c6:=⟨_,p9,λZ U H P F ds Q S hf q=>by cases hf;exact q [] H (Same.refl _) denAll_nil⟩
def a8{fr:List D->Option (List D)}(ha:PX X M a fa ca)(hr:PAX X M es fr)(hs:au (a::es) X.env=(yp,cK a X.env)::au es X.env:=by rfl):PAX X M (a::es) (a7 fa fr):=by
 obtain⟨ta,pa,qa⟩:=ha.out;obtain⟨tr,pr,qr⟩:=hr;refine⟨_,l0 pa pr hs,λZ U H P F ds Q S hf q=>?_⟩;obtain⟨x,h1,hf⟩:=bnd hf;obtain⟨xs,h2,hf⟩:=bnd hf;cases hf
 exact qa Z U H P F _ _ S h1 λv H1 e1 r1=>qr Z U H1 P F _ _ (S.grow e1) h2 λvs H2 e2 r2=>q (v::vs) H2 (e1.trans e2) (denAll_cons (r1.den.up e2) r2)
def k7:PAN X M [] c6 []:=⟨_,p9,λZ U H P F ds Q S hf q=>by
 cases hf
 refine q [] H [] (Same.refl _) ?_ bD λa ha=>(nomatch ha)
 simp only[OwnTs];exact⟨trivial,trivial,trivial⟩⟩
def i5{fr:List D->Option (List D)}(ha:PX X M a fa (.new u))(hr:PAN X M es fr us)(hs:au (a::es) X.env=(yp,cK a X.env)::au es X.env:=by rfl):PAN X M (a::es) (a7 fa fr) (u::us):=by
 obtain⟨ta,pa,qa⟩:=ha.out;obtain⟨tr,pr,qr⟩:=hr;refine⟨_,l0 pa pr hs,λZ U H P F ds Q S hf q=>?_⟩;obtain⟨x,h1,hf⟩:=bnd hf;obtain⟨xs,h2,hf⟩:=bnd hf;cases hf
 refine qa Z U H P F _ _ S h1 λv H1 e1 ⟨fp,o,n,fr⟩=>qr Z U H1 P (fp++F) _ _ (S.more e1 fr (o.lst u)) h2 λvs H2 gp e2 o2 n2 zX=>?_
 have hl:=o.lst u;have hc:Same (cut H1 (fp++F)) (cut H2 (fp++gp++F)):=P5 e2 λa o' ha mf=>by
  rw[aN]at mf;rcases ao.mp mf with z|z
  ·exact aj _ z
  ·rcases ao.mp z with z|z
   ·rw[zX a z]at ha;cases ha
   ·exact ah _ z
 have hd:∀a∈gp,a∉fp:=λa ha z=>by
  obtain⟨ys,q⟩:=hl a z;rw[zX a ha]at q;cases q
 refine q (v::vs) H2 (fp++gp) (e1.trans e2) ?_ ?_ λa ha=>?_
 ·simp only[OwnTs];refine⟨v,vs,x,xs,fp,gp,rfl,rfl,rfl,o.frame hc u λa ha=>?_,o2.frame (H:=H2) (D6 λa ha=>?_) us λ_ _=>rfl⟩
  ·obtain⟨ys,q⟩:=hl a ha;rw[q,e2 _ _ q]
  ·simp only[ao]at ha ⊢;rcases ha with (z|z)|z
   ·exact .inr (.inl z)
   ·exact .inl z
   ·exact .inr (.inr z)
 ·rw[bu];exact⟨n,n2,λa ha b hb e=>hd b hb (e▸ha)⟩
 ·rcases ao.mp ha with z|z
  ·exact fr a z
  ·exact e1.free (zX a z)
end
section
variable {K:ag}{H H0 H1:Hp}{F fp:List av}{vs:List V}{ds:List D}{p:av}{u:Ty}{us:List Ty}
def b6d(hp:H p=xn):Same (cut H (fp++F)) (cut (upd H p o) (p::fp++F)):=P5 (k8 hp o) λa u ha mf=>by
 rw[bp]at mf;rcases aD.mp mf with z|z
 ·subst z;rw[hp]at ha;cases ha
 ·exact z
theorem a4N:∀{n:Nat} {vs:List V} {ds:List D} {fp:List av},OwnTs K H F (aT n u) vs ds fp->ListAll (Own K H F u) vs ds fp
 |0,_,_,_,h=>by
  simp only[gN,OwnTs]at h;obtain⟨rfl,rfl,rfl⟩:=h;exact l8
 |n+1,_,_,_,h=>by
  simp only[jx,OwnTs]at h;obtain⟨v,r,d,e,f,g,rfl,rfl,rfl,h1,h2⟩:=h;exact k9 h1 (a4N h2)
theorem OwnTs.len:∀{us:List Ty} {vs:List V} {ds:List D} {fp:List av},OwnTs K H F us vs ds fp->vs.length=us.length/\ds.length=us.length
 |[],_,_,_,h=>by simp only[OwnTs]at h;obtain⟨rfl,rfl,_⟩:=h;exact⟨rfl,rfl⟩
 |u::us,_,_,_,h=>by
  simp only[OwnTs]at h;obtain⟨v,r,d,e,f,g,rfl,rfl,rfl,_,h2⟩:=h;obtain⟨a,b⟩:=OwnTs.len h2;exact⟨by rw[aS,aS,a],by rw[aS,aS,b]⟩
def l5(e:Same (cut H F) (cut H1 F'))(h:ListAll (Own K H F u) vs ds fp)(k:∀a∈fp,H1 a=H a):ListAll (Own K H1 F' u) vs ds fp:=
 h.imp λv d f hf _ q=>q.frame e u λa ha=>k a (hf a ha)
def a3c(h:ListAll (Own K H1 (fp++F) u) vs ds fp)(hn:fp.Nodup)(hf:∀a∈fp,H a=xn)(e:Same H H1)(hp:H1 p=xn)(hl:∀a∈fp,∃ys:MuO,H1 a=cz ys.1):ResR K (.new (.l u)) H (upd H1 p (.lst vs)) F (.ref p) (.list ds):=by
 have vG:p∉fp:=λz=>by obtain⟨ys,q⟩:=hl p z;rw[hp]at q;cases q
 refine⟨p::fp,?_,bY.mpr ⟨vG,hn⟩,λa ha=>?_⟩
 ·simp only[Own];refine .inr ⟨p,vs,ds,fp,rfl,f8,rfl,rfl,l5 (b6d hp) h λa ha=>?_⟩;exact c7 λz=>vG (z▸ha)
 ·rcases aD.mp ha with z|z
  ·subst z;exact e.free hp
  ·exact hf a z
theorem ListAll.of_den:∀{vs:List V} {ds:List D},DenAll K H vs ds->(∀v d,d∈ds->Den K H v d->R v d [])->ListAll R vs ds []
 |_,[],h,_=>by rw[h.nil_inv];exact l8
 |_,d::ds,h,k=>by
  obtain⟨v,r,rfl,h1,h2⟩:=h.cons_inv;have:=k9 (f:=[]) (k v d aL h1) (ListAll.of_den h2 λv d hd=>k v d (aw _ hd));exact this
theorem F8:∀{ds:List D} {d:D},c9 ds=yn->d∈ds->imm d=yn
 |[],d,_,h=>nomatch h
 |d0::ds,d,q,h=>by
  simp only[c9,aC]at q;rcases aD.mp h with z|z
  ·rw[z];exact q.1
  ·exact F8 q.2 z
def Y9(h:DenAll K H1 vs ds)(hi:c9 ds=yn)(e:Same H H1)(hp:H1 p=xn)(hF:∀a∈F,∃ys:MuO,H1 a=cz ys.1):ResR K (.new (.l .i)) H (upd H1 p (.lst vs)) F (.ref p) (.list ds):=
 a3c (fp:=[]) (ListAll.of_den h λv d hd q=>by
  simp only[Own,bx];exact⟨trivial,F8 hi hd,q.imm_out hF d (F8 hi hd)⟩) bD (λa ha=>(nomatch ha)) e hp λa ha=>(nomatch ha)
def b1b(h:DenAll K (cut H1 F) vs ds)(e:Same H H1)(hp:H1 p=xn):ResR K (.new (.l .f)) H (upd H1 p (.lst vs)) F (.ref p) (.list ds):=
 a3c (fp:=[]) (ListAll.of_den h λv d hd q=>by
  simp only[Own,bx];exact⟨trivial,q⟩) bD (λa ha=>(nomatch ha)) e hp λa ha=>(nomatch ha)
def b3b(h:DenAll K H1 vs ds)(hp:H1 p=xn):Den K (upd H1 p (.lst vs)) (.ref p) (.list ds):=den_list (.inl (.inl f8)) (h.up (k8 hp _))
def a6x(h:DenAll K H1 vs ds)(hp:H1 p=xn):Den K (upd H1 p (.tup vs)) (.ref p) (.tuple ds):=den_tup (SqT.of f8) (h.up (k8 hp _))
def b6e(h:c9 ds=yn):imm (.tuple ds)=yn:=by simpa only [imm]using h
end
noncomputable def x5(f:EvA):EvE:=λZ=>(f Z).bind λds=>cz (.list ds)
noncomputable def K1(f:EvA):EvE:=λZ=>(f Z).bind λds=>cz (.tuple ds)
def a5C(d:D):Option D:=if imm d then cz d else xn
def a4O(h:a5C d=cz e):e=d/\imm d=yn:=by
 unfold a5C at h;by_cases c:imm d=yn
 ·rw[aB c]at h;exact⟨(aH h).symm,c⟩
 ·rw[aJ c]at h;cases h
def b3c(d:D):Option D:=match d with
 |.list ds=>if c9 ds then cz d else xn
 |_=>xn
def a7X(h:b3c d=cz e):∃ds,d=.list ds/\e=.list ds/\c9 ds=yn:=by
 cases d with
 |list ds=>
  have h':(if c9 ds=yn then cz (b_ ds) else xn)=cz e:=h;by_cases c:c9 ds=yn
  ·rw[aB c]at h';exact⟨ds,rfl,(aH h').symm,c⟩
  ·rw[aJ c]at h';cases h'
 |_=>cases h
section
variable {X:Cx}{M:List Md}{a b e:Expr}{es:List Expr}{fa fb:EvE}{f:EvA}{c ca cb:Cat}{u:Ty}{us:List Ty}{pos:fW}
def q8(h:PAN X M es f (aT n u))(hn:autoParam (n<=1000) ZV._auto_1):PX X M (.List es pos) (x5 f) (.new (.l u)):=by
 obtain⟨t,p,q⟩:=h;refine .mk ⟨_,b8L p,λZ U H P F d Q S hf k=>?_⟩;obtain⟨ds,h1,hf⟩:=bnd hf;cases hf
 refine q Z U H P F ds _ S h1 λvs H1 fp e o nd fr=>⟨?_,λx hx=>k (.ref x) _ (e.trans (k8 hx _)) (a3c (a4N o) nd fr e hx (o.lst _))⟩
 rw[o.len.1,gn];exact eN (Y8 hn)
def a7Y(h:PAN X M es f us)(hn:autoParam (us.length<=1000) ZV._auto_1):PX X M (.Tuple es j pos) (K1 f) (.new (.tp us)):=by
 obtain⟨t,p,q⟩:=h;refine .mk ⟨_,a5s p,λZ U H P F d Q S hf k=>?_⟩;obtain⟨ds,h1,hf⟩:=bnd hf;cases hf
 refine q Z U H P F ds _ S h1 λvs H1 fp e o nd fr=>⟨?_,λx hx=>k (.ref x) _ (e.trans (k8 hx _)) ⟨fp,?_,nd,fr⟩⟩
 ·rw[o.len.1];exact eN (Y8 hn)
 ·have AO:x∉fp++F:=λz=>by
   rcases ao.mp z with z|z
   ·obtain⟨ys,q⟩:=o.lst _ x z;rw[hx]at q;cases q
   ·obtain⟨ys,q⟩:=S.lst' e x z;rw[hx]at q;cases q
  simp only[Own];refine⟨x,vs,ds,rfl,f8,AO,rfl,o.frame (P6 (k8 hx _)) us λa ha=>?_⟩;exact c7 λz=>AO (z▸aj _ ha)
theorem a6y:∀{n:Nat} {vs:List V} {ds:List D} {fp:List av},OwnTs K H F (aT n .i) vs ds fp->c9 ds=yn
 |0,_,_,_,h=>by
  simp only[gN,OwnTs]at h;obtain⟨rfl,rfl,rfl⟩:=h;simp only[c9]
 |n+1,_,_,_,h=>by
  simp only[jx,OwnTs]at h;obtain⟨v,r,d,e,f,g,rfl,rfl,rfl,h1,h2⟩:=h;simp only[c9,aC];exact⟨(a2a h1).2.1,a6y h2⟩
def a2G{j}(h:PAN X M es f (aT n .i))(hn:autoParam (n<=1000) ZV._auto_1):PX X M (.Tuple es j pos) (K1 f) (.new .i):=by
 obtain⟨t,p,q⟩:=h;refine .mk ⟨_,a5s p,λZ U H P F d Q S hf k=>?_⟩;obtain⟨ds,h1,hf⟩:=bnd hf;cases hf
 refine q Z U H P F ds _ S h1 λvs H1 fp e o nd fr=>⟨?_,λx hx=>k (.ref x) _ (e.trans (k8 hx _)) (O1 (b6e (a6y o)) (a6x (o.den _) hx) (S.lst' (e.trans (k8 hx _))))⟩
 rw[o.len.1,gn];exact eN (Y8 hn)
def b1c{Z:List D}(hr:∀Z ds,r Z=cz ds->ds.length=n)(h:a7 fa r Z=cz ds):ds.length=n+1:=by
 obtain⟨x,_,h⟩:=bnd h;obtain⟨xs,h2,h⟩:=bnd h;cases h
 rw[aS,hr Z xs h2]
def dIx:D->D->Option D
 |.list ds,.int k=>atI ds k
 |.tuple ds,.int k=>atI ds k
 |_,_=>xn
def a6z:D->D->Option D
 |.list ds,.int k=>atI ds k
 |_,_=>xn
def o8(a b:D):Option D:=(dIx a b).bind a5C
theorem DenAll.atI(h:DenAll K H vs ds)(e:L2.atI ds k=cz d):∃v j,L2.atI vs k=cz v/\ixN ds.length k=cz j/\vs[j]?=cz v/\ds[j]?=cz d/\Den K H v d:=by
 unfold L2.atI at e ⊢;obtain⟨j,e1,e2⟩:=bnd e;obtain⟨v,h1,h2⟩:=h.get e2;exact⟨v,j,by rw[h.length,e1];exact h1,e1,h1,e2,h2⟩
def c1g(K:ag):R2:=λx y H Q=>c0Z K x y H Q\/c1a K x y H Q
def a3d:IxR X (c1g X.K):=b5R.or b8O
def a9y(h:dIx x y=cz d):∃ds k,(x=.list ds\/x=.tuple ds)/\y=.int k/\L2.atI ds k=cz d:=by
 cases x with
 |list ds=>cases y with
  |int k=>exact⟨ds,k,.inl rfl,rfl,h⟩
  |_=>cases h
 |tuple ds=>cases y with
  |int k=>exact⟨ds,k,.inr rfl,rfl,h⟩
  |_=>cases h
 |_=>cases h
def c1h(hx:Den K H v x)(hy:Den K H w y)(h:dIx x y=cz d)(q:∀z,Den K H z d->Q z H):c1g K v w H Q:=by
 obtain⟨ds,k,e,rfl,h⟩:=a9y h;cases hy.int_inv
 rcases e with rfl|rfl
 ·obtain⟨a,xs,rfl,h1,h2⟩:=hx.list_inv;obtain⟨z,j,z1,z2,z3,z4,z5⟩:=h2.atI h;exact .inl ⟨a,xs,k,z,rfl,rfl,h1.l,z1,q z z5⟩
 ·obtain⟨a,xs,rfl,h1,h2⟩:=hx.tup_inv;obtain⟨z,j,z1,z2,z3,z4,z5⟩:=h2.atI h;exact .inr ⟨a,xs,k,z,rfl,rfl,h1,z1,q z z5⟩
def t8(ha:PX X M a fa ca)(hb:PX X M b fb cb)(hs:a0N b:=by exact λ_ _=>rfl):PX X M (.Subscript a b pos) (e2 o8 fa fb) (.new .i):=by
 obtain⟨ta,pa,qa⟩:=ha.out;obtain⟨tb,pb,qb⟩:=hb.out;refine .mk ⟨_,a6t a3d pa pb hs,λZ U H P F d Q S hf q=>?_⟩;obtain⟨x,y,h1,h2,h3⟩:=D7 hf;obtain⟨d',h3,h4⟩:=bnd h3;obtain⟨rfl,hi⟩:=a4O h4;exact qa Z U H P F x _ S h1 λv H1 e1 r1=>qb Z U H1 P F y _ (S.grow e1) h2 λw H2 e2 r2=>c1h (r1.den.up e2) r2.den h3 λz hz=>q z H2 (e1.trans e2) (O1 hi hz (S.lst' (e1.trans e2)))
def t6(ha:PX X M a fa (.new .f))(hb:PX X M b fb cb)(hs:a0N b:=by exact λ_ _=>rfl):PX X M (.Subscript a b pos) (e2 dIx fa fb) (.new .f):=by
 obtain⟨ta,pa,qa⟩:=ha.out;obtain⟨tb,pb,qb⟩:=hb.out;refine .mk ⟨_,a6t a3d pa pb hs,λZ U H P F d Q S hf q=>?_⟩;obtain⟨x,y,h1,h2,h3⟩:=D7 hf;refine qa Z U H P F x _ S h1 λv H1 e1 ⟨fp,o,_,_⟩=>qb Z U H1 P F y _ (S.grow e1) h2 λw H2 e2 r2=>?_
 obtain⟨rfl,o⟩:=a9w o;have o2:Den X.K (cut H2 F) v x:=o.up (P6 e2);obtain⟨ds,k,e,rfl,h⟩:=a9y h3;have fin:∀z,Den X.K (cut H2 F) z d->Q z H2:=λz hz=>q z H2 (e1.trans e2) ⟨[],by simp only[Own,bx];exact⟨trivial,hz⟩,bD,λa ha=>(nomatch ha)⟩
 have ey:=r2.den.int_inv;rcases e with rfl|rfl
 ·obtain⟨a,xs,rfl,h1,h2⟩:=o2.list_inv;obtain⟨z,j,z1,z2,z3,z4,z5⟩:=h2.atI h;exact .inl ⟨a,xs,k,z,rfl,ey,(O7 h1 j9).l,z1,fin z z5⟩
 ·obtain⟨a,xs,rfl,h1,h2⟩:=o2.tup_inv;obtain⟨z,j,z1,z2,z3,z4,z5⟩:=h2.atI h;exact .inr ⟨a,xs,k,z,rfl,ey,a0x h1 j9,z1,fin z z5⟩
def a5D(ha:PX X M a fa (.bor (.l u)))(hb:PX X M b fb cb)(hs:a0N b:=by exact λ_ _=>rfl):PX X M (.Subscript a b pos) (e2 a6z fa fb) (.bor u):=by
 obtain⟨ta,pa,qa⟩:=ha.out;obtain⟨tb,pb,qb⟩:=hb.out;refine .mk ⟨_,a6t a3d pa pb hs,λZ U H P F d Q S hf q=>?_⟩;obtain⟨x,y,h1,h2,h3⟩:=D7 hf;refine qa Z U H P F x _ S h1 λv H1 e1 ⟨fp,o,sub⟩=>qb Z U H1 P F y _ (S.grow e1) h2 λw H2 e2 r2=>?_
 have o2:=o.grow e2;cases x with
 |list ds=>
  cases y with
  |int k=>
   simp only[Own]at o2;rcases o2 with⟨_,hi,_⟩|⟨p,xs,jC,fs,rfl,p1,p2,rfl,p3⟩
   ·simp only[imm]at hi;cases hi
   ·cases p2
    have qJ:(ixN ds.length k).bind (λj=>ds[j]?)=cz d:=h3;obtain⟨j,j1,j2⟩:=bnd qJ;obtain⟨z,f,pre,post,z1,z2,z3,_,_⟩:=p3.at_ j2;refine .inl ⟨p,xs,k,z,rfl,r2.den.int_inv,.inl (.inl p1),?_,q z H2 (e1.trans e2) ⟨f,z2,λa ha=>sub a ?_⟩⟩
    ·unfold L2.atI;rw[p3.length,j1];exact z1
    ·rw[z3];exact aw _ (ah _ (aj _ ha))
  |_=>cases h3
 |_=>cases h3
end
noncomputable def eCl(g:List D->Option D)(f:EvA):EvE:=λZ=>(f Z).bind g
section
variable {X:Cx}{M:List Md}{a b e e0:Expr}{es:List Expr}{fa fb:EvE}{f:EvA}{c ca cb:Cat}{u:Ty}{us:List Ty}{pos p:fW}{x:bE}
def T0{id:String}{g:List D->Option D}(hc:a6v X (.builtin id) g)(hm:X.mg x=xn)(hv:gY x=cz (.builtin id))(h:PAX X M (e0::es) f)(hg:Gl X x:=by rfl)(hn:autoParam (x≠"__name__") ZV._auto_1)(mB:autoParam ((x==("__debug__":bE))=yp) ZV._auto_1)
  (he:au (e0::es) X.env=(yp,cK e0 X.env)::au es X.env:=by rfl) (gT:(cM pos (au es X.env)).any (·.1)=yp:=by rfl):PX X M (.Call (.Name x p) (e0::es) [] pos) (eCl g f) (.new .i):=by
 obtain⟨r,hr,hs⟩:=hc;obtain⟨t,pa,qa⟩:=h;refine .mk ⟨_,a2S hr hg hm hv pa hn mB he gT,λZ U H P F d Q S hf q=>?_⟩;obtain⟨ds,h1,hf⟩:=bnd hf;exact qa Z U H P F ds _ S h1 λvs H1 e1 r1=>hs vs H1 ds d Q r1 hf λz hi hd=>q z H1 e1 (O1 hi (hd H1) (S.lst' e1))
def a0S(h:DenAll K H xs [d]):∃v,xs=[v]/\Den K H v d:=by
 obtain⟨v,r,rfl,h1,h2⟩:=h.cons_inv;cases h2.nil_inv
 exact⟨v,rfl,h1⟩
def Z0{K:ag}{H:Hp}{xs:List V}{d e:D}(h:DenAll K H xs [d,e]):∃v w,xs=[v,w]/\Den K H v d/\Den K H w e:=by
 obtain⟨v,r,rfl,h1,h2⟩:=h.cons_inv;obtain⟨w,rfl,h3⟩:=a0S h2;exact⟨v,w,rfl,h1,h3⟩
noncomputable def B8:List D->Option D
 |[.list ds]=>cz (.int ds.length)
 |[.tuple ds]=>cz (.int ds.length)
 |[.str x]=>if x.length<=aZ then cz (.int x.length) else xn
 |_=>xn
def b8W:a6v X (.builtin "len") B8:=by
 refine⟨_,a5u.or a5v,λxs H ds d Q hd hg q=>?_⟩
 match ds,hg with
 |[.list es],hg=>
  cases hg
  obtain⟨v,rfl,h⟩:=a0S hd;obtain⟨a,ys,rfl,h1,h2⟩:=h.list_inv;refine .inl ⟨a,ys,rfl,.inl h1.l,?_⟩;rw[h2.length];exact q _ (by simp only[imm]) λ_=>den_int
 |[.tuple es],hg=>
  cases hg
  obtain⟨v,rfl,h⟩:=a0S hd;obtain⟨a,ys,rfl,h1,h2⟩:=h.tup_inv;refine .inl ⟨a,ys,rfl,.inr h1,?_⟩;rw[h2.length];exact q _ (by simp only[imm]) λ_=>den_int
 |[.str x],hg=>
  have sF:(if x.length<=aZ then cz (aK x.length) else xn)=cz d:=hg;by_cases z:x.length<=aZ
  ·rw[aB z]at sF;cases sF
   obtain⟨v,rfl,h⟩:=a0S hd;cases h.str_inv
   exact .inr ⟨x,rfl,z,q _ (by simp only[imm]) λ_=>den_int⟩
  ·rw[aJ z]at sF;cases sF
 |[.none],hg|[.bool _],hg|[.int _],hg|[.dict _],hg=>cases hg
 |[],hg=>cases hg
 |d1::_::_,hg=>cases d1<;>cases hg
noncomputable def D8(mx:Bool):List D->Option D
 |[.int i,.int j]=>cz (.int (if mx then (if j>i then j else i) else (if j<i then j else i)))
 |_=>xn
def b3d(h:D8 mx ds=cz d):∃i j,ds=[.int i,.int j]/\d=.int (if mx then (if j>i then j else i) else (if j<i then j else i)):=by
 match ds,h with
 |[.int i,.int j],h=>cases h;exact⟨i,j,rfl,rfl⟩
def a7Z(hc:X.calm=yn):a6v X (.builtin "max") (D8 yn):=by
 refine⟨_,b0P hc,λxs H ds d Q hd hg q=>?_⟩;obtain⟨i,j,rfl,rfl⟩:=b3d hg;obtain⟨v,w,rfl,h1,h2⟩:=Z0 hd;cases h1.int_inv
 cases h2.int_inv
 exact⟨i,j,rfl,q _ (by simp only[imm]) λ_=>den_int⟩
def a8a(hc:X.calm=yn):a6v X (.builtin "min") (D8 yp):=by
 refine⟨_,b0Q hc,λxs H ds d Q hd hg q=>?_⟩;obtain⟨i,j,rfl,rfl⟩:=b3d hg;obtain⟨v,w,rfl,h1,h2⟩:=Z0 hd;cases h1.int_inv
 cases h2.int_inv
 exact⟨i,j,rfl,q _ (by simp only[imm]) λ_=>den_int⟩
def c1i:List D->Option (List Bool)
 |[]=>cz []
 |.bool b::r=>(c1i r).map (b::·)
 |_=>xn
def tyD:D->String
 |.int _=>"int"
 |.bool _=>"bool"
 |.list _=>"list"
 |.tuple _=>"tuple"
 |.none=>"NoneType"
 |.str _=>"str"
 |.dict _=>"dict"
def Den.ty{K:ag}{H:Hp}{v:V}:∀{d:D},Den K H v d->(∀ds,d≠.tuple ds)->(∀ds,d≠.list ds)->(∀ds,d≠.dict ds)->TyOf K H v (.type (tyD d))
 |.none,h,_,_,_=>by cases h.none_inv;exact .non
 |.bool _,h,_,_,_=>by cases h.bool_inv;exact .bl _
 |.int _,h,_,_,_=>by cases h.int_inv;exact .int _
 |.str _,h,_,_,_=>by cases h.str_inv;exact .str _
 |.list ds,h,_,q,_=>absurd rfl (q ds)
 |.tuple ds,h,q,_,_=>absurd rfl (q ds)
 |.dict ds,h,_,_,q=>absurd rfl (q ds)
def c1j(K:ag)(T:String)(g:D->Bool):List V->Hp->VK->Prop:=λxs H Q=>∃x d,xs=[x,.ty T]/\Den K H x d/\Q (.bl (g d)) H
def a8b{pins:List (av×fY)}{U:L2.St}{H:Hp}{s:ar}{A:bS}{E:ak->ar->Prop}{Q:ak->ar->Prop}{cv:ak}{k:Bool}{a:av}{xs:List V}(I:Inv X pins U H s)(h:SqT X.K H a xs)(e:eQ X.K (.type "tuple") cv=cz k)(hq:∀tk,Q (.bool k) {s with toks:=tk}) :
  aX (aV X.prog X.w) A (call (.builtin "isinstance") [.ref a,cv]) Q E s:=by
 obtain⟨its,_,⟨o,h1,h2,_⟩,_⟩:=I.tuple h;exact df Ai I.kIn ⟨o,h1,h2⟩ e (λz=>nomatch z) hq
def a8c{pins:List (av×fY)}{U:L2.St}{H:Hp}{s:ar}{A:bS}{E:ak->ar->Prop}{Q:ak->ar->Prop}{cv:ak}{k:Bool}{a:av}{xs:List V}(I:Inv X pins U H s)(h:SqX X.K H a xs)(e:eQ X.K (.type "list") cv=cz k)(hq:∀tk,Q (.bool k) {s with toks:=tk}) :
  aX (aV X.prog X.w) A (call (.builtin "isinstance") [.ref a,cv]) Q E s:=by
 obtain⟨_,its,n,_,h1⟩:=h.ok I;exact df nV I.kIn ⟨_,h1,rfl⟩ e (λz=>nomatch z) hq
def a8d{pins:List (av×fY)}{U:L2.St}{H:Hp}{s:ar}{A:bS}{E:ak->ar->Prop}{Q:ak->ar->Prop}{cv:ak}{k:Bool}{a:av}{es:List (D×V×V)}(I:Inv X pins U H s)(h:H a=cz (g9 a es))(e:eQ X.K (.type "dict") cv=cz k)(hq:∀tk,Q (.bool k) {s with toks:=tk}) :
  aX (aV X.prog X.w) A (call (.builtin "isinstance") [.ref a,cv]) Q E s:=by
 obtain⟨⟨_,_,_,o,ents,_,h1,h2,_⟩,_⟩:=(show ObjOk X.prog X.w H s.heap a (g9 a es) from I.hok a _ h);exact df nW I.kIn ⟨o,h1,h2.1⟩ e (λz=>nomatch z) hq
def b1d{T:String}{g:D->Bool}(hf:∀(K:ag) (d:D),eQ K (.type (tyD d)) (.type T)=cz (g d)):CallR X (.builtin "isinstance") (c1j X.K T g):=by
 intro pins s U H xs us Q I r h;obtain⟨x,d,rfl,hd,q⟩:=h;obtain⟨u,w',rfl,rx,ry⟩:=vals2 r;cases (show w'=fK T from ry)
 by_cases ht:(∀ds,d≠.tuple ds)/\(∀ds,d≠.list ds)/\(∀ds,d≠.dict ds)
 ·exact b0S I rx (hd.ty ht.1 ht.2.1 ht.2.2) (hf X.K d) λtk=>⟨.bl _,H,I.tok tk,rfl,q⟩
 ·cases d with
  |list ds=>
   obtain⟨a,ys,rfl,h1,_⟩:=hd.list_inv;cases (show u=bM a from rx)
   exact a8c I h1 (hf X.K (.list ds)) λtk=>⟨.bl _,H,I.tok tk,rfl,q⟩
  |tuple ds=>
   obtain⟨a,ys,rfl,h1,_⟩:=hd.tup_inv;cases (show u=bM a from rx)
   exact a8b I h1 (hf X.K (.tuple ds)) λtk=>⟨.bl _,H,I.tok tk,rfl,q⟩
  |dict ds=>
   simp only[Den]at hd;obtain⟨a,es,rfl,h1,_⟩:=hd;cases (show u=bM a from rx)
   exact a8d I h1 (hf X.K (.dict ds)) λtk=>⟨.bl _,H,I.tok tk,rfl,q⟩
  |_=>exact absurd ⟨(λds z=>by cases z),(λds z=>by cases z),(λds z=>by cases z)⟩ ht
def isInt:D->Bool
 |.int _=>yn
 |.bool _=>yn
 |_=>yp
def isBool:D->Bool
 |.bool _=>yn
 |_=>yp
def isList:D->Bool
 |.list _=>yn
 |_=>yp
def Z3:D->Bool
 |.tuple _=>yn
 |_=>yp
def a0z{g:D->Bool}(hf:∀(K:ag) (d:D),eQ K (.type (tyD d)) (.type T)=cz (g d))(hm:X.mg "isinstance"=xn)(hy:X.mg y=xn)(hb:gY y=cz (.type T))(h:PX X M a fa ca)
  (hg:Gl X "isinstance":=by rfl) (v_:Gl X y:=by rfl) (Dn:autoParam (y≠"__name__") ZV._auto_1) (wm:autoParam ((y==("__debug__":bE))=yp) ZV._auto_1)
  (he:au [a,.Name y py] X.env=(yp,cK a X.env)::au [.Name y py] X.env:=by rfl) (qD:au [.Name y py] X.env=(yp,cK (.Name y py) X.env)::au [] X.env:=by rfl) (gT:(cM pos (au [.Name y py] X.env)).any (·.1)=yp:=by rfl) :
  PX X M (.Call (.Name "isinstance" p) [a,.Name y py] [] pos) (e1 (λd=>cz (.bool (g d))) fa) (.new .i):=by
 obtain⟨ta,pa,qa⟩:=h.out;refine .mk ⟨_,a2S (b1d hf) hg hm PyProof.Rows.Boot.«isinstance» (l0 pa (l0 (b5D (v:=.ty T) v_ hy hb rfl Dn wm) p9 qD) he) (by decide) (by decide) he gT,λZ U H P F d Q S qB q=>?_⟩;obtain⟨x,h1,qB⟩:=bnd qB;cases qB
 exact qa Z U H P F x _ S h1 λv H1 e1 r1=>⟨v,x,rfl,r1.den,q _ H1 e1 (O1 (by simp only[imm]) den_bool (S.lst' e1))⟩
def a9z(K:ag)(d:D):eQ K (.type (tyD d)) (.type "int")=cz (isInt d):=by cases d<;>rfl
def a6A(K:ag)(d:D):eQ K (.type (tyD d)) (.type "bool")=cz (isBool d):=by cases d<;>rfl
def a6B(K:ag)(d:D):eQ K (.type (tyD d)) (.type "list")=cz (isList d):=by cases d<;>rfl
def b1e(K:ag)(d:D):eQ K (.type (tyD d)) (.type "tuple")=cz (Z3 d):=by cases d<;>rfl
end
def cutD(ds:List D)(lo hi:Option Int):List D:=(ds.drop (HT.sIx ds.length 0 lo)).take (HT.sIx ds.length ds.length hi-HT.sIx ds.length 0 lo)
abbrev EvO:=List D->Option (Option Int)
noncomputable def oNo:EvO:=λ_=>cz xn
def asI:D->Option Int
 |.int i=>cz i
 |_=>xn
noncomputable def oSo(a:EvE):EvO:=λZ=>(a Z).bind λd=>(asI d).bind λi=>cz (cz i)
def M7(h:asI d=cz i):d=.int i:=by
 cases d with
 |int j=>cases h;rfl
 |_=>cases h
def asL:D->Option (List D)
 |.list ds=>cz ds
 |_=>xn
def Q2(h:asL d=cz ds):d=.list ds:=by
 cases d with
 |list j=>cases h;rfl
 |_=>cases h
def asS:D->Option (List D)
 |.list ds=>cz ds
 |.tuple ds=>cz ds
 |_=>xn
noncomputable def POX(X:Cx)(M:List Md)(e:Option Expr)(f:EvO):Prop:=
 ∃t,PO X e t/\∀(Z:List D) (U:L2.St) (H P:Hp) (F:List av) (o:Option Int) (Q:Option Int->Hp->Prop),StE X.K M Z U H P F->f Z=cz o->(∀H',Same H H'->Q o H')->t U H Q
noncomputable def eSl(a:EvE)(lo hi:EvO):EvE:=λZ=>(a Z).bind λx=>(asL x).bind λds=>(lo Z).bind λl=>(hi Z).bind λh=>cz (.list (cutD ds l h))
noncomputable def eI(a:EvE):EvE:=λZ=>(a Z).bind b3c
section
variable {X:Cx}{M:List Md}{a b e e0:Expr}{lo hi:Option Expr}{es:List Expr}{fa fb:EvE}{fl fh:EvO}{f:EvA}{c ca cb:Cat}{u:Ty}{us:List Ty}{pos p p2:fW}{x:bE}
def W5:POX X M xn oNo:=⟨_,b5P,λZ U H P F o Q S hf q=>by cases hf;exact q H (Same.refl _)⟩
def W6(h:PX X M a fa ca):POX X M (cz a) (oSo fa):=by
 obtain⟨t,p,q⟩:=h.out;refine⟨_,b5Q p,λZ U H P F o Q S hf k=>?_⟩;obtain⟨d,h1,rV⟩:=bnd hf;obtain⟨i,h2,rT⟩:=bnd rV;cases M7 h2
 cases rT
 exact q Z U H P F _ _ S h1 λv H1 e1 r1=>⟨i,r1.den.int_inv,k H1 e1⟩
structure MkL (X:Cx) (M:List Md) (e:Expr) (f:EvE) (A:Prop):Prop where
 run:∃t,PE X e t/\∀(Z:List D) (U:L2.St) (H P:Hp) (F:List av) (d:D) (Q:VK),StE X.K M Z U H P F->f Z=cz d->
  (∀vs ds H1 l,Same H H1->d=.list ds->DenAll X.K H1 vs ds->(A->DenAll X.K (cut H1 F) vs ds)->H1 l=xn->Q (.ref l) (upd H1 l (.lst vs)))->t U H Q
theorem MkL.t{f:EvE}{A:Prop}(h:MkL X M e f A):PX X M e f .tmp:=by
 obtain⟨t,p,q⟩:=h.run;refine .mk ⟨t,p,λZ U H P F d Q S hf k=>q Z U H P F d Q S hf λvs ds H1 l e1 ed h1 _ hl=>?_⟩;subst ed;exact k _ _ (e1.trans (k8 hl _)) (b3b h1 hl)
def MkL.fz{f:EvE}(h:MkL X M e f True):PX X M e f (.new (.l .f)):=by
 obtain⟨t,p,q⟩:=h.run;refine .mk ⟨t,p,λZ U H P F d Q S hf k=>q Z U H P F d Q S hf λvs ds H1 l e1 ed _ h1 hl=>?_⟩;subst ed;exact k _ _ (e1.trans (k8 hl _)) (b1b (h1 trivial) e1 hl)
theorem MkL.i{f:EvE}{A:Prop}(h:MkL X M e f A):PX X M e (eI f) (.new (.l .i)):=by
 obtain⟨t,p,q⟩:=h.run;refine .mk ⟨t,p,λZ U H P F d Q S hf k=>?_⟩;obtain⟨d',g1,hc⟩:=bnd hf;clear hf;obtain⟨es,rfl,rfl,hi⟩:=a7X hc;refine q Z U H P F _ Q S g1 λvs ds H1 l e1 ed h1 _ hl=>?_
 cases ed
 exact k _ _ (e1.trans (k8 hl _)) (Y9 h1 hi e1 hl (S.lst' e1))
def frozen:Cat->Prop
 |.new .f=>True
 |.new .i=>True
 |_=>False
def a0T(hc:frozen c)(r:ResR K c H H1 F v d):Den K (cut H1 F) v d:=by
 match c,hc with
 |.new .f,_=>
  obtain⟨fp,o,_⟩:=r;obtain⟨rfl,o⟩:=a9w o;exact o
 |.new .i,_=>
  obtain⟨fp,o,_⟩:=r;obtain⟨rfl,_,o⟩:=a2a o;exact o
def K8(r:ResR K c H H1 F v (.list ds)):∃a xs,v=.ref a/\SqX K H1 a xs/\DenAll K H1 xs ds/\(frozen c->DenAll K (cut H1 F) xs ds):=by
 by_cases hc:frozen c
 ·obtain⟨a,xs,rfl,k1,k2⟩:=(a0T hc r).list_inv;exact⟨a,xs,rfl,O7 k1 j9,k2.up j9,λ_=>k2⟩
 ·obtain⟨a,xs,rfl,k1,k2⟩:=r.den.list_inv;exact⟨a,xs,rfl,k1,k2,λh=>absurd h hc⟩
def b3e:SlR X (λx lo hi H Q=>∃a xs,x=.ref a/\SqX X.K H a xs/\∀p,H p=xn->Q (.ref p) (upd H p (.lst (a7R xs lo hi)))):=by
 intro pins s U H x v vl vu lo hi sl Q I rx hs pl pu ⟨a,xs,e,h,q⟩;exact b5S pins s U H x v vl vu lo hi sl Q I rx hs pl pu ⟨a,xs,e,h.l,q⟩
def a9A(h:DenAll K H vs ds)(lo hi:Option Int):DenAll K H (a7R vs lo hi) (cutD ds lo hi):=by
 unfold a7R cutD;rw[h.length];exact (h.drop _).take _
def W7(ha:PX X M a fa ca)(hl:POX X M lo fl)(hh:POX X M hi fh):MkL X M (.Subscript a (.Slice lo hi xn p2) pos) (eSl fa fl fh) (frozen ca):=by
 obtain⟨ta,pa,qa⟩:=ha.out;obtain⟨tl,pl,ql⟩:=hl;obtain⟨th,ph,qh⟩:=hh;refine⟨_,b2O b3e pa pl ph,λZ U H P F d Q S hf q=>?_⟩;obtain⟨x,h1,rV⟩:=bnd hf;obtain⟨ds,h2,rT⟩:=bnd rV;cases Q2 h2
 obtain⟨l,h3,zU⟩:=bnd rT;obtain⟨h,h4,uR⟩:=bnd zU;cases uR
 refine qa Z U H P F _ _ S h1 λv H1 e1 r1=>ql Z U H1 P F l _ (S.grow e1) h3 λH2 e2=>qh Z U H2 P F h _ (S.grow (e1.trans e2)) h4 λH3 e3=>?_
 obtain⟨pp,xs,rfl,k1,k2,k3⟩:=K8 (r1.up (e2.trans e3));exact⟨pp,xs,rfl,k1,λz hz=>q _ _ H3 z ((e1.trans e2).trans e3) rfl (a9A k2 l h) (λhc=>a9A (k3 hc) l h) hz⟩
noncomputable def D9(a:EvE):EvE:=λZ=>(a Z).bind λd=>(asS d).bind λds=>cz (.list ds)
def Z4(hm:X.mg "list"=xn)(ha:PX X M a fa ca)(hg:Gl X "list":=by rfl)(he:au [a] X.env=(yp,cK a X.env)::au [] X.env:=by rfl)(gT:(cM pos (au [] X.env)).any (·.1)=yp:=by rfl) :
  MkL X M (.Call (.Name "list" p) [a] [] pos) (D9 fa) (frozen ca):=by
 obtain⟨ta,pa,qa⟩:=ha.out;refine⟨_,Y6 a5w hg hm PyProof.Rows.Boot.«list» (l0 pa p9 he) (by decide) (by decide) he gT,λZ U H P F d Q S hf q=>?_⟩;obtain⟨x,h1,rV⟩:=bnd hf;obtain⟨ds,h2,rT⟩:=bnd rV;cases rT
 refine qa Z U H P F _ _ S h1 λv H1 e1 r1=>?_
 cases x with
 |list es=>
  cases h2
  obtain⟨pp,xs,rfl,k1,k2,k3⟩:=K8 r1;exact⟨pp,xs,rfl,.inl k1.l,λz hz=>q _ _ H1 z e1 rfl k2 k3 hz⟩
 |tuple es=>
  cases h2
  by_cases hc:frozen ca
  ·obtain⟨pp,xs,rfl,k1,k2⟩:=(a0T hc r1).tup_inv;exact⟨pp,xs,rfl,.inr (a0x k1 j9),λz hz=>q _ _ H1 z e1 rfl (k2.up j9) (λ_=>k2) hz⟩
  ·obtain⟨pp,xs,rfl,k1,k2⟩:=r1.den.tup_inv;exact⟨pp,xs,rfl,.inr k1,λz hz=>q _ _ H1 z e1 rfl k2 (λh=>absurd h hc) hz⟩
 |_=>cases h2
noncomputable def W8(a:EvE):EvE:=λZ=>(a Z).bind λd=>(asS d).bind λds=>a5C (.tuple ds)
def a3e(hm:X.mg "tuple"=xn)(ha:PX X M a fa ca)(hg:Gl X "tuple":=by rfl)(he:au [a] X.env=(yp,cK a X.env)::au [] X.env:=by rfl)(gT:(cM pos (au [] X.env)).any (·.1)=yp:=by rfl) :
  PX X M (.Call (.Name "tuple" p) [a] [] pos) (W8 fa) (.new .i):=by
 obtain⟨ta,pa,qa⟩:=ha.out;refine .mk ⟨_,Y6 a4n hg hm PyProof.Rows.Boot.«tuple» (l0 pa p9 he) (by decide) (by decide) he gT,λZ U H P F d Q S hf q=>?_⟩;obtain⟨x,h1,rV⟩:=bnd hf;obtain⟨ds,h2,rT⟩:=bnd rV;obtain⟨rfl,hi⟩:=a4O rT;refine qa Z U H P F _ _ S h1 λv H1 e1 r1=>?_
 cases x with
 |list es=>
  cases h2
  obtain⟨pp,xs,rfl,k1,k2⟩:=r1.den.list_inv;exact⟨pp,xs,rfl,.inl ⟨k1.l,λz hz=>q _ _ (e1.trans (k8 hz _)) (O1 hi (a6x k2 hz) (S.lst' (e1.trans (k8 hz _))))⟩⟩
 |tuple es=>
  cases h2
  obtain⟨pp,xs,rfl,k1,k2⟩:=r1.den.tup_inv;exact⟨pp,xs,rfl,.inr ⟨k1,q _ _ e1 (O1 hi (den_tup k1 k2) (S.lst' e1))⟩⟩
 |_=>cases h2
def b6f:OpR X (gg .Add) (λx y H Q=>∃l b xs zs,x=.ref l/\y=.ref b/\SqX X.K H l xs/\SqX X.K H b zs/\xs.length+zs.length<=aZ/\∀p,H p=xn->Q (.ref p) (upd H p (.lst (xs++zs)))):=by
 intro pins s U H x y v u Q I rx ry h;obtain⟨l,b,xs,zs,rfl,rfl,hH,hB,hz,q⟩:=h;cases rx
 cases ry
 obtain⟨z,its,n,r,e⟩:=hH.ok I;obtain⟨z2,oD,n2,r2,e2⟩:=hB.ok I;have hl:=r.length;have pI:=r2.length;refine PySem.P.add_list e e2 ?_ (by rw[be,be];lia);have ea:its.toArray++oD.toArray=(its++oD).toArray:=by simp
 rw[ea];exact⟨.ref _,_,I.lnew (t':=s.toks) (r.append r2) (by rw[aA];lia),rfl,q _ I.fresh⟩
noncomputable def T3(a b:EvE):EvE:=λZ=>(a Z).bind λx=>(asL x).bind λds=>(b Z).bind λy=>(asL y).bind λes=>if ds.length+es.length<=aZ then cz (.list (ds++es)) else xn
def a5E(ha:PX X M a fa ca)(hb:PX X M b fb cb):MkL X M (.BinOp a .Add b pos) (T3 fa fb) (frozen ca/\frozen cb):=by
 obtain⟨ta,pa,qa⟩:=ha.out;obtain⟨tb,pb,qb⟩:=hb.out;refine⟨_,b7P b6f pa pb,λZ U H P F d Q S hf q=>?_⟩;obtain⟨x,h1,rV⟩:=bnd hf;obtain⟨ds,h2,rT⟩:=bnd rV;cases Q2 h2
 obtain⟨y,h3,zU⟩:=bnd rT;obtain⟨es,h4,uR⟩:=bnd zU;cases Q2 h4
 by_cases hz:ds.length+es.length<=aZ
 ·rw[aB hz]at uR;cases uR
  refine qa Z U H P F _ _ S h1 λv H1 e1 r1=>qb Z U H1 P F _ _ (S.grow e1) h3 λw H2 e2 r2=>?_
  obtain⟨pp,xs,rfl,k1,k2,k3⟩:=K8 (r1.up e2);obtain⟨qq,ys,rfl,j1,j2,j3⟩:=K8 r2;exact⟨pp,qq,xs,ys,rfl,rfl,k1,j1,by rw[k2.length,j2.length];exact hz,λz hz=>q _ _ H2 z (e1.trans e2) rfl (k2.append j2) (λhc=>(k3 hc.1).append (j3 hc.2)) hz⟩
 ·rw[aJ hz]at uR;cases uR
noncomputable def spD(K:ag)(n:Nat)(m:List D->Option D)(u:Ty):Sp:=λvs H Q _=>∃ds d,vs.length=n/\DenAll K H vs ds/\m ds=cz d/\∀v H' fp,Same H H'->Own K H' fp u v d fp->fp.Nodup->(∀a∈fp,H a=xn)->Q v H'
def a0U(W:Has X.prog X.w X.K X.mg X.base x k ps (spD X.K n m u))(hr:Room k X.A)(h:PAX X M (e0::es) f)(hu:u.shut=yn:=by rfl)(hl:(e0::es).length=n:=by rfl)(hfl:∀Z ds,f Z=cz ds->ds.length=(e0::es).length)
  (hg:Gl X x:=by rfl) (mB:autoParam ((x==("__debug__":bE))=yp) ZV._auto_1) (he:au (e0::es) X.env=(yp,cK e0 X.env)::au es X.env:=by rfl) (gT:(cM pos (au es X.env)).any (·.1)=yp:=by rfl) :
  PX X M (.Call (.Name x p) (e0::es) [] pos) (eCl m f) (.new u):=by
 obtain⟨t,pa,qa⟩:=h;refine .mk ⟨_,b2Q W hr pa hg mB he gT,λZ U H P F d Q S hf q=>?_⟩;obtain⟨ds,h1,hf⟩:=bnd hf;refine qa Z U H P F ds _ S h1 λvs H1 e1 r1=>?_
 show spD X.K n m u (vs++[]) H1 Q E0;rw[bb];refine⟨ds,d,by rw[r1.length,hfl Z ds h1,hl],r1,hf,λv H' fp e o nd fr=>q v H' (e1.trans e) ⟨fp,o.shut_out (λa ha=>?_) u hu,nd,λa ha=>e1.free (fr a ha)⟩⟩;rcases ao.mp ha with z|z
 ·exact o.lst u a z
 ·exact S.lst' (e1.trans e) a z
end
structure Walks (J:It) (Pr:Hp->Prop) (xs:List V):Prop where
 go:∀i H,Pr H->i<xs.length->J.go i H
 stop:∀i H,Pr H->xs.length<=i->J.stop i H
 yld:∀i H x H',Pr H->i<xs.length->J.yld i H x H'->H'=H/\xs[i]?=cz x
def a3f:Walks (Itl K a) (λH=>SqL K H a xs) xs where
 go:=λi H h hi=>⟨xs,xs[i],h,by simp[hi]⟩
 stop:=λi H h hi=>⟨xs,h,hi⟩
 yld:=λi H x H' h _ y=>⟨y.1,y.2 xs h⟩
def a6C:Walks (Itr lo n) (λ_=>True) ((az n).map λ(k:Nat)=>V.int (lo+k)) where
 go:=λi H h hi=>by show i<n;simpa using hi
 stop:=λi H h hi=>by show n<=i;simpa using hi
 yld:=λi H x H' h hi y=>by
  obtain⟨e,y⟩:=y;refine⟨e,?_⟩;have mO:i<n:=by simpa using hi
  rw[y];simp[mO]
noncomputable def PIX(X:Cx)(M:List Md)(tg iter:Expr)(f:EvA):Prop:=
 ∃wi,PI X tg iter wi/\∀(Z:List D) (U:L2.St) (H P:Hp) (F:List av) (ds:List D) (R:It->Hp->Prop),StE X.K M Z U H P F->f Z=cz ds->
  (∀J xs Pr H1,Same H H1->Walks J Pr xs->(∀H2,Same (cut H1 F) H2->Pr H2)->DenAll X.K (cut H1 F) xs ds->R J H1)->wi U H R
noncomputable def iL(a:EvE):EvA:=λZ=>(a Z).bind asL
def l7(lo:Int)(n:Nat):List D:=(az n).map λ(k:Nat)=>.int (lo+k)
noncomputable def iR(a:EvE):EvA:=λZ=>(a Z).bind λd=>(asI d).bind λn=>if -(2^62)<=n/\n<2^62 then cz (l7 0 n.toNat) else xn
noncomputable def iI(f:EvA):EvA:=λZ=>(f Z).bind λds=>if c9 ds then cz ds else xn
section
variable {X:Cx}{M:List Md}{a b e tg iter:Expr}{fa fb:EvE}{f:EvA}{ca cb:Cat}{pos p:fW}
def l6(h:PX X M a fa ca)(hc:frozen ca:=by trivial):PIX X M tg a (iL fa):=by
 obtain⟨t,p,q⟩:=h.out;refine⟨_,a9r p,λZ U H P F ds R S hf k=>?_⟩;obtain⟨d,h1,h2⟩:=bnd hf;cases Q2 h2
 refine q Z U H P F _ _ S h1 λv H1 e1 r1=>?_
 obtain⟨aa,xs,rfl,k1,k2⟩:=(a0T hc r1).list_inv;exact⟨aa,rfl,⟨xs,(O7 k1 j9).l⟩,k _ xs _ H1 e1 a3f (λH2 e2=>(O7 k1 e2).l) k2⟩
def b1f:DenAll K H ((az n).map λ(k:Nat)=>V.int (lo+k)) (l7 lo n):=by
 have:∀l:List Nat,DenAll K H (l.map λ(k:Nat)=>V.int (lo+k)) (l.map λ(k:Nat)=>aK (lo+k)):=by
  intro l
  induction l with
  |nil=>exact denAll_nil
  |cons x l ih=>exact denAll_cons den_int ih
 exact this _
def C6(hm:X.mg "range"=xn)(h:PX X M a fa ca)(hg:Gl X "range":=by rfl)(he:au [a] X.env=[(yp,cK a X.env)]:=by rfl)(qD:au [a] X.env=(yp,cK a X.env)::au [] X.env:=by rfl) :
  PIX X M tg (.Call (.Name "range" p) [a] [] pos) (iR fa):=by
 obtain⟨t,p,q⟩:=h.out;refine⟨_,b0N hg hm (l0 p p9 qD) he,λZ U H P F ds R S hf k=>?_⟩;obtain⟨d,h1,g1⟩:=bnd hf;obtain⟨n,h2,g2⟩:=bnd g1;cases M7 h2
 by_cases c:-(2^62)<=n/\n<2^62
 ·rw[aB c]at g2;cases g2
  exact q Z U H P F _ _ S h1 λv H1 e1 r1=>⟨n,by rw[r1.den.int_inv],c.1,c.2,k _ _ _ H1 e1 a6C (λ_ _=>trivial) b1f⟩
 ·rw[aJ c]at g2;cases g2
def PIX.i(h:PIX X M tg iter f):PIX X M tg iter (iI f):=by
 obtain⟨wi,p,q⟩:=h;refine⟨wi,p,λZ U H P F ds R S hf k=>?_⟩;obtain⟨es,h1,g1⟩:=bnd hf;by_cases c:c9 es=yn
 ·rw[aB c]at g1;cases g1
  exact q Z U H P F _ R S h1 k
 ·rw[aJ c]at g1;cases g1
end
def TgR(K:ag)(g:TG)(n:Nat)(pt:D->Option (List D)):Prop:=
 ∀(H Hc:Hp) (x:V) (d:D) (ds:List D) (U:L2.St) (Q:L2.St->Hp->Prop),Same Hc H->Den K Hc x d->pt d=cz ds->n<=U.length->(∀vs,DenAll K Hc vs ds->vs.length=n->Q (vs.map cz++U.drop n) H)->g x U H Q
def pt1(d:D):Option (List D):=cz [d]
def pt2:D->Option (List D)
 |.tuple [a,b]=>cz [a,b]
 |_=>xn
def A5:TgR K (D0 0) 1 pt1:=by
 intro H Hc x d ds U Q e hd hp hn k;cases hp
 cases U with
 |nil=>simp at hn
 |cons o U=>exact k [x] (denAll_cons hd denAll_nil) rfl
def a9B:TgR K (b8w K 2 (a2Q (D0 0) (a2Q (D0 1) b5F))) 2 pt2:=by
 intro H Hc x d ds U Q e hd hp hn k
 match d,hp with
 |.tuple [a,b],hp=>
  cases hp
  obtain⟨aa,xs,rfl,h1,h2⟩:=hd.tup_inv;obtain⟨v,w,rfl,h3,h4⟩:=Z0 h2
  match U,hn with
  |o::o'::U,_=>
   exact⟨aa,_,rfl,a0x h1 e,rfl,v,[w],rfl,w,[],rfl,rfl,k [v,w] (denAll_cons h3 (denAll_cons h4 denAll_nil)) rfl⟩
noncomputable def M8(pt:D->Option (List D))(t:EvT)(g:EvE)(cs:List D):List D->Option (List D)
 |[]=>cz []
 |d::ds=>(pt d).bind λbs=>(t (bs++cs)).bind λk=>if k then (g (bs++cs)).bind λy=>(M8 pt t g cs ds).bind λys=>cz (y::ys) else M8 pt t g cs ds
noncomputable def n9(fi:EvA)(js:List Nat)(pt:D->Option (List D))(t:EvT)(g:EvE):EvE:=λZ=>(fi Z).bind λds=>if ds.length<=1000000 then (M8 pt t g (js.map λj=>Z.getD j .none) ds).bind λys=>cz (.list ys) else xn
noncomputable def tT:EvT:=λ_=>cz yn
def E1(m:Md)(n:Nat)(M:List Md)(js:List Nat):List Md:=aT n m++js.map λj=>M.getD j .dead
section
variable {K:ag}{J:It}{Pr:Hp->Prop}{xs:List V}{Dl:av}{g:TG}{tt:TT}{te:TE}{U:L2.St}{H:Hp}{R:Hp->Prop}
def a1u(hw:Walks J Pr xs)(Pv:Nat->List V->L2.St->Hp->Prop)(h0:Pv 0 [] U (upd H Dl (.lst [])))(hp:∀i ys U H,Pv i ys U H->Pr H)
  (hs:∀i x ys U H,xs[i]?=cz x->Pv i ys U H->g x U H λU3 H3=>tt U3 H3 λb H4=>if b=yn then te U3 H4 λy H5=>H5 Dl=cz (.lst ys)/\ys.length<aZ/\Pv (i+1) (ys++[y]) U3 (upd H5 Dl (.lst (ys++[y]))) else Pv (i+1) ys U3 H4)
  (hd:∀ys U H,Pv xs.length ys U H->R H) :
  ∃W:Nat->Nat->List V->L2.St->Hp->Prop,(∃m,W 0 m [] U (upd H Dl (.lst [])))/\∀i m ys U' H',W i m ys U' H'->(J.stop i H'/\R H')\/
   (J.go i H'/\∃(N:V->L2.St->Hp->Prop) (NO:L2.St->Hp->Prop),(∀y U3 H4,N y U3 H4->H4 Dl=cz (.lst ys)/\ys.length<aZ/\∃m',m'<m/\W (i+1) m' (ys++[y]) U3 (upd H4 Dl (.lst (ys++[y]))))/\
    (∀U3 H4,NO U3 H4->∃m',m'<m/\W (i+1) m' ys U3 H4)/\∀x H2,J.yld i H' x H2->g x U' H2 λU3 H3=>tt U3 H3 λb H4=>if b=yn then te U3 H4 λy H5=>N y U3 H5 else NO U3 H4):=by
 refine⟨λi m ys U H=>m=xs.length-i/\i<=xs.length/\Pv i ys U H,⟨xs.length,by simp,cG _,h0⟩,?_⟩;rintro i m ys U H ⟨rfl,hi,p⟩;have q:=hp i ys U H p;by_cases jk:i<xs.length
 ·refine .inr ⟨hw.go i H q jk,λy U3 H4=>H4 Dl=cz (.lst ys)/\ys.length<aZ/\Pv (i+1) (ys++[y]) U3 (upd H4 Dl (.lst (ys++[y]))),λU3 H4=>Pv (i+1) ys U3 H4,λy U3 H4 ⟨r1,r2,r3⟩=>⟨r1,r2,xs.length-(i+1),by lia,rfl,jk,r3⟩,λU3 H4 r3=>⟨xs.length-(i+1),by lia,rfl,jk,r3⟩,λx H' y=>?_⟩;obtain⟨e,yy⟩:=hw.yld i H x H' q jk y;subst e;exact hs i x ys U _ yy p
 ·have e:i=xs.length:=by lia
  subst e;exact .inl ⟨hw.stop _ H q (ay _),hd ys U H p⟩
end
def a6D{Z:List D}{js:List Nat}(S:StE K M Z U H P F)(hm:m=.i\/m=.f)(hv:DenAll K (cut H F) vs bs)(hi:m=.i->c9 bs=yn)(hn:vs.length=n)
  (hU:Ub=vs.map cz++js.map λj=>(U[j]?).getD xn):StE K (E1 (.own m) n M js) (bs++js.map λj=>Z.getD j .none) Ub H P F:=by
 obtain⟨G,h1,h3⟩:=S.all;obtain⟨G',q,hq⟩:=h1.pick h3 js;refine⟨⟨G',?_,hq⟩,S.lst,S.prot⟩;subst hU hn;unfold E1;have key:∀{vs:List V} {bs:List D},DenAll K (cut H F) vs bs->(m=.i->c9 bs=yn)->StAll K H F (aT vs.length (.own m)++js.map λj=>M.getD j .dead) (bs++js.map λj=>Z.getD j .none) (vs.map cz++js.map λj=>(U[j]?).getD xn) G':=by
  intro vs
  induction vs with
  |nil=>
   intro bs h _;have hl:=h.length;have:bs=[]:=eU.mp (by simpa using hl.symm);subst this;exact q
  |cons v vs ih=>
   intro bs h hi;cases bs with
   |nil=>have:=h.length;simp at this
   |cons b bs=>
    obtain⟨v',r,e,h4,h5⟩:=h.cons_inv;cases e
    have:=i7 (K:=K) (H:=H) (F:=F) (m:=.own m) (d:=b) (o:=cz v) (f:=[]) ⟨v,rfl,by
     rcases hm with rfl|rfl
     ·have:=hi rfl;simp only[c9,aC]at this;simp only[Own];exact⟨trivial,this.1,h4⟩
     ·simp only[Own];exact⟨trivial,h4⟩⟩ (ih h5 λe=>by have:=hi e;simp only[c9,aC]at this;exact this.2)
    simpa[jx]using this
 exact key hv hi
def a0A(h:M8 pt t g cs (d::ds)=cz rs) :
  ∃bs k,pt d=cz bs/\t (bs++cs)=cz k/\((k=yn/\∃y ys,g (bs++cs)=cz y/\M8 pt t g cs ds=cz ys/\rs=y::ys)\/(k=yp/\M8 pt t g cs ds=cz rs)):=by
 simp only[M8]at h;obtain⟨bs,h1,g1⟩:=bnd h;obtain⟨k,h2,g2⟩:=bnd g1;refine⟨bs,k,h1,h2,?_⟩;cases k with
 |true=>
  rw[aB rfl]at g2;obtain⟨y,h3,g3⟩:=bnd g2;obtain⟨ys,h4,g4⟩:=bnd g3;cases g4
  exact .inl ⟨rfl,y,ys,h3,h4,rfl⟩
 |false=>
  rw[aJ bU]at g2;exact .inr ⟨rfl,g2⟩
section
variable {X:Cx}{M:List Md}{tn ys:List bE}{js:List Nat}{scope:gC}{elt tg iter:Expr}{ifs:List Expr}{pos:fW}{g:TG}{n:Nat}{pt:D->Option (List D)}{fi:EvA}{ft:EvT}{fe:EvE}{u m:Ty}
def a1v(hi:∀(Z:List D) (U:L2.St) (H P:Hp) (F:List av) (ds:List D) (R:It->Hp->Prop),StE X.K M Z U H P F->fi Z=cz ds->
   (∀J xs Pr H1,Same H H1->Walks J Pr xs->(∀H2,Same (cut H1 F) H2->Pr H2)->DenAll X.K (cut H1 F) xs ds->R J H1)->wi U H R)
  (hg:TgR X.K g n pt) (hm:m=.i\/m=.f) (qU:m=.i->∀Z ds,fi Z=cz ds->∀d∈ds,∀bs,pt d=cz bs->c9 bs=yn) (tE:tn.length=n)
  {Z:List D} (S:StE X.K M Z U H P F) (hf:n9 fi js pt ft fe Z=cz d) (q:∀v H',Same H H'->ResR X.K (.new (.l u)) H H' F v d->Q v H') :
  a5z wi g (spT X.K (E1 (.own m) n M js) ft) (spE X.K (E1 (.own m) n M js) fe (.new u)) (a0w tn js) U H Q:=by
 obtain⟨ds,h1,g1⟩:=bnd hf;by_cases hz:ds.length<=1000000
 ·rw[aB hz]at g1;obtain⟨res,h2,g2⟩:=bnd g1;cases g2
  refine hi Z U H P F ds _ S h1 λJ xs Pr H1 e1 hw qw hx Dl hD=>?_
  have om:=hx.length;have uQ:Dl∉F:=λz=>by obtain⟨zs,w⟩:=S.lst' e1 Dl z;rw[hD]at w;cases w
  refine a1u hw (λi ys U' H'=>(∃os:L2.St,os.length=n/\U'=os++js.map λj=>(U[j]?).getD xn)/\H' Dl=cz (.lst ys)/\Same H1 H'/\∃(fp:List av) (zs rs:List D),ListAll (Own X.K H' (Dl::fp++F) u) ys zs fp/\fp.Nodup/\(∀a∈fp,H1 a=xn)/\Dl∉fp/\
    M8 pt ft fe (js.map λj=>Z.getD j .none) (ds.drop i)=cz rs/\res=zs++rs/\ys.length<=i) ?_ ?_ ?_ ?_
  ·exact⟨⟨_,by rw[gn];exact tE,rfl⟩,f8,k8 hD _,[],[],res,l8,bD,λa ha=>(nomatch ha),λh=>(nomatch h),h2,rfl,ay _⟩
  ·rintro i ys U' H' ⟨_,_,e,_⟩;exact qw H' (j9.trans e)
  ·rintro i x ys U' H' nJ ⟨⟨os,ho,rfl⟩,nR,e2,fp,zs,rs,gL,mw,lK,lF,hc,mr,qg⟩;obtain⟨d,nO,_⟩:=hx.getV nJ;have mh:i<ds.length:=(aM.mp nO).1;have lV:ds.drop i=d::ds.drop (i+1):=by
    rw[dA mh]
    congr 1;exact (aM.mp nO).2
   rw[lV]at hc;obtain⟨bs,k,qV,jL,yY⟩:=a0A hc;have hfl:∀a∈Dl::fp,∃zs:MuO,H' a=cz zs.1:=λa ha=>by
    rcases aD.mp ha with z|z
    ·subst z;exact⟨⟨.lst ys,trivial⟩,nR⟩
    ·exact gL.lst (u:=u) (λv d f q=>q.lst u) a z
   have mP:∀a∈Dl::fp,H1 a=xn:=λa ha=>by
    rcases aD.mp ha with z|z
    ·subst z;exact hD
    ·exact lK a z
   have S1:StE X.K M Z U H' P (Dl::fp++F):=(S.grow e1).more (fp:=Dl::fp) e2 mP hfl;have wx:DenAll X.K (cut H' (Dl::fp++F)) xs ds:=hx.up (P7 (fp:=Dl::fp) e2 mP);obtain⟨d',qF,qE⟩:=wx.getV nJ;rw[nO]at qF;cases qF
   refine hg H' _ x d bs _ _ j9 qE qV (by rw[aA,ho];lia) λvs qT yJ=>?_
   rw[pC (by lia),List.drop_of_length_le (by lia),bx];have SB:StE X.K (E1 (.own m) n M js) (bs++js.map λj=>Z.getD j .none) (vs.map cz++js.map λj=>(U[j]?).getD xn) H' P (Dl::fp++F):=
    a6D S1 hm qT (λe=>qU e Z ds h1 d (bt nO) bs qV) yJ rfl
   refine⟨_,P,_,k,SB,jL,λH3 e3=>?_⟩;rcases yY with⟨rfl,y,rest,yX,vH,rfl⟩|⟨rfl,vH⟩
   ·refine a5x ⟨_,P,_,y,SB.grow e3,yX,λv H4 e4 ⟨gp,o,nd,fr⟩=>?_⟩;have xS:=e3.trans e4;have wb:Dl∉gp:=λz=>by have w:=fr Dl z;rw[e3 _ _ nR]at w;cases w
    have zq:∀a∈gp,a∉fp:=λa ha z=>by
     obtain⟨zs,w⟩:=hfl a (aw _ z);have w2:=fr a ha;rw[e3 _ _ w]at w2;cases w2
    have jB:∀a,a∈Dl::(fp++gp)++F->a∈gp++(Dl::fp++F):=λa ha=>by
     simp only[bp,aD,ao]at ha ⊢;rcases ha with z|(z|z)|z
     ·exact .inr (.inl z)
     ·exact .inr (.inr (.inl z))
     ·exact .inl z
     ·exact .inr (.inr (.inr z))
    have uL:Same (cut H' (Dl::fp++F)) (cut (upd H4 Dl (.lst (ys++[v]))) (Dl::(fp++gp)++F)):=λa o' ha=>by
     obtain⟨n1,n2⟩:=m8 ha;have iU:a≠Dl:=λz=>n1 (by rw[z];exact aj _ aL)
     refine i9 (λz=>?_) (by rw[c7 iU];exact xS _ _ n2);rcases ao.mp (jB a z) with w|w
     ·have:=fr a w;rw[e3 _ _ n2]at this;cases this
     ·exact n1 w
    have zH:Same (cut H4 (gp++(Dl::fp++F))) (cut (upd H4 Dl (.lst (ys++[v]))) (Dl::(fp++gp)++F)):=λa o' ha=>by
     obtain⟨n1,n2⟩:=m8 ha;have iU:a≠Dl:=λz=>n1 (by rw[z];exact ah _ (aj _ aL))
     exact i9 (λz=>n1 (jB a z)) (by rw[c7 iU];exact n2)
    refine⟨xS _ _ nR,?_,⟨_,by rw[ai];exact yJ,rfl⟩,f8,?_,fp++gp,zs++[y],rest,?_,?_,?_,?_,vH,by rw[mr,aN];rfl,by rw[aA];simp;lia⟩
    ·exact fZ (cF qg (cF (eN mh) hz)) (by rw[cX];decide)
    ·exact a2W (e2.trans xS) hD _
    ·refine (l5 uL gL λa ha=>?_).append ?_
     ·rw[c7 (show a≠Dl from λz=>lF (z▸ha))];obtain⟨zs,w⟩:=hfl a (aw _ ha);rw[w,xS _ _ w]
     ·have:=k9 (R:=Own X.K (upd H4 Dl (.lst (ys++[v]))) (Dl::(fp++gp)++F) u) (o.frame zH u λa ha=>c7 (λz=>wb (z▸ha))) l8
      rwa[bb]at this
    ·rw[bu];exact⟨mw,nd,λa ha b hb e=>zq b hb (e▸ha)⟩
    ·intro a ha;rcases ao.mp ha with z|z
     ·exact lK a z
     ·exact (e2.trans e3).free (fr a z)
    ·intro z;rcases ao.mp z with w|w
     ·exact lF w
     ·exact wb w
   ·refine a7T ?_;have uL:Same (cut H' (Dl::fp++F)) (cut H3 (Dl::fp++F)):=P6 e3;refine⟨⟨_,by rw[ai];exact yJ,rfl⟩,e3 _ _ nR,e2.trans e3,fp,zs,rs,l5 uL gL λa ha=>?_,mw,lK,lF,vH,mr,by lia⟩;obtain⟨zs,w⟩:=hfl a (aw _ ha);rw[w,e3 _ _ w]
  ·rintro ys U' H' ⟨_,nR,e2,fp,zs,rs,gL,mw,lK,lF,hc,mr,_⟩;rw[om,gI]at hc;cases hc
   rw[bb]at mr;subst mr;refine q (.ref Dl) H' (e1.trans e2) ⟨Dl::fp,?_,bY.mpr ⟨lF,mw⟩,λa ha=>?_⟩
   ·simp only[Own];exact .inr ⟨Dl,ys,res,fp,rfl,nR,rfl,rfl,gL⟩
   ·rcases aD.mp ha with z|z
    ·subst z;exact e1.free hD
    ·exact e1.free (lK a z)
 ·rw[aJ hz]at g1;cases g1
def A6(hc:X.calm=yn)(hi:PIX X M tg iter fi)(C:K5 scope X.env.kindOf ys js X.N=yn)(hg:∀cl Cl s H fp,PG (B5 X (tn++ys) scope cl Cl s H fp) tg g)(wa:TgR X.K g n pt)(hm:m=.i\/m=.f)
  (qU:m=.i->∀Z ds,fi Z=cz ds->∀d∈ds,∀bs,pt d=cz bs->c9 bs=yn) (tE:tn.length=n)
  (ht:∀cl Cl s H fp,PTs (B5 X (tn++ys) scope cl Cl s H fp) ifs (spT X.K (E1 (.own m) n M js) ft)) (he:∀cl Cl s H fp,PX (B5 X (tn++ys) scope cl Cl s H fp) (E1 (.own m) n M js) elt fe (.new u))
  (hs:∀x,dM iter X.env x=pure x:=by intro _;rfl):PX X M (.ListComp elt [⟨tg,iter,ifs,0⟩] scope pos) (n9 fi js pt ft fe) (.new (.l u)):=by
 obtain⟨wi,pi,qi⟩:=hi;exact .mk ⟨_,a2X (te:=spE X.K (E1 (.own m) n M js) fe (.new u)) hc pi C hg ht he hs,λZ U H P F d Q S hf q=>a1v qi wa hm qU tE S hf q⟩
def x6:∀{X':Cx} {M':List Md},PTs X' [] (spT X'.K M' tT):=λ{X' M'} pins s U H Q I ⟨Z,P,F,b,S,hb,q⟩=>by
 cases hb
 exact a9u pins s U H Q I (q H (Same.refl _))
def a4P:(Ty.f=Ty.i)->∀(Z ds:List D),fi Z=cz ds->∀d∈ds,∀bs,pt d=cz bs->c9 bs=yn:=λh=>nomatch h
def a4Q:(Ty.i=Ty.i)->∀(Z ds:List D),iI fi Z=cz ds->∀d∈ds,∀bs,pt1 d=cz bs->c9 bs=yn:=λ_ Z ds h d hd bs hb=>by
 obtain⟨es,_,g1⟩:=bnd h;by_cases c:c9 es=yn
 ·rw[aB c]at g1;cases g1
  cases hb
  simp only[c9,fQ];exact F8 c hd
 ·rw[aJ c]at g1;cases g1
def c1k:(Ty.i=Ty.i)->∀(Z ds:List D),iI fi Z=cz ds->∀d∈ds,∀bs,pt2 d=cz bs->c9 bs=yn:=λ_ Z ds h d hd bs hb=>by
 obtain⟨es,_,g1⟩:=bnd h;by_cases c:c9 es=yn
 ·rw[aB c]at g1;cases g1
  have:=F8 c hd
  match d,hb with
  |.tuple [a,b],hb=>
   cases hb
   simpa only [imm]using this
 ·rw[aJ c]at g1;cases g1
def a5F(lo:Int)(n:Nat):c9 (l7 lo n)=yn:=by
 have:∀l:List Nat,c9 (l.map λ(k:Nat)=>aK (lo+k))=yn:=by
  intro l
  induction l with
  |nil=>simp only[cZ,c9]
  |cons x l ih=>simp only[ax,c9,imm,ih,er]
 exact this _
def a9C:(Ty.i=Ty.i)->∀(Z ds:List D),iR fa Z=cz ds->∀d∈ds,∀bs,pt1 d=cz bs->c9 bs=yn:=λ_ Z ds h d hd bs hb=>by
 obtain⟨x,h1,g1⟩:=bnd h;obtain⟨k,h2,g2⟩:=bnd g1
 split at g2
 ·cases g2
  cases hb
  simp only[c9,fQ];exact F8 (a5F _ _) hd
 ·cases g2
end
section
variable {K:ag}{H H' P:Hp}{F F':List av}
theorem StAll.split:∀{A B:List Md} {Z:List D} {U:L2.St} {G:List av},StAll K H F (A++B) Z U G->∃Z1 Z2 U1 U2 G1 G2,Z=Z1++Z2/\U=U1++U2/\G=G1++G2/\StAll K H F A Z1 U1 G1/\StAll K H F B Z2 U2 G2
 |[],B,Z,U,G,h=>⟨[],Z,[],U,[],G,rfl,rfl,rfl,L7,h⟩
 |m::A,B,_,_,_,h=>by
  simp only[bp,StAll]at h;obtain⟨d,Z,o,U,f,g,rfl,rfl,rfl,h1,h2⟩:=h;obtain⟨Z1,Z2,U1,U2,G1,G2,rfl,rfl,rfl,h3,h4⟩:=StAll.split h2;exact⟨d::Z1,Z2,o::U1,U2,f++G1,G2,rfl,rfl,by rw[aN],i7 h1 h3,h4⟩
theorem StAll.join:∀{A B:List Md} {Z1 Z2:List D} {U1 U2:L2.St} {G1 G2:List av},StAll K H F A Z1 U1 G1->StAll K H F B Z2 U2 G2->StAll K H F (A++B) (Z1++Z2) (U1++U2) (G1++G2)
 |[],B,_,_,_,_,_,_,h,q=>by
  simp only[StAll]at h;obtain⟨rfl,rfl,rfl⟩:=h;exact q
 |m::A,B,_,_,_,_,_,_,h,q=>by
  simp only[StAll]at h;obtain⟨d,Z,o,U,f,g,rfl,rfl,rfl,h1,h2⟩:=h;rw[aN];exact i7 h1 (StAll.join h2 q)
def a6E{α:Type}{a b c d:List α}(h:a++b=c++d)(hl:a.length=c.length):a=c/\b=d:=List.append_inj h hl
def StAll.splitAt{A B:List Md}{Z1 Z2:List D}{U1 U2:L2.St}(h:StAll K H F (A++B) (Z1++Z2) (U1++U2) G)(hZ:Z1.length=A.length)(hU:U1.length=A.length):∃G1 G2,G=G1++G2/\StAll K H F A Z1 U1 G1/\StAll K H F B Z2 U2 G2:=by
 obtain⟨r1,r2,s1,s2,G1,G2,e1,e2,e3,h1,h2⟩:=h.split;obtain⟨l1,l2⟩:=h1.len;obtain⟨rfl,rfl⟩:=a6E e1 (by lia);obtain⟨rfl,rfl⟩:=a6E e2 (by lia);exact⟨G1,G2,e3,h1,h2⟩
theorem W9:∀{us:List Ty} {vs:List V} {ds:List D} {G:List av},StAll K H F (us.map Md.own) ds (vs.map cz) G->OwnTs K H F us vs ds G
 |[],vs,ds,G,h=>by
  simp only[cZ,StAll]at h;obtain⟨rfl,e,rfl⟩:=h;have:vs=[]:=by simpa using e
  subst this;simp only[OwnTs];exact⟨trivial,trivial,trivial⟩
 |u::us,vs,ds,G,h=>by
  simp only[ax,StAll]at h;obtain⟨d,Z,o,U,f,g,rfl,e,rfl,⟨v,rfl,h1⟩,h2⟩:=h;cases vs with
  |nil=>simp at e
  |cons v' vs=>
   simp only[ax,gi,nX]at e;obtain⟨rfl,rfl⟩:=e;simp only[OwnTs];exact⟨v',vs,d,Z,f,g,rfl,rfl,rfl,h1,W9 h2⟩
end
def Pend(K:ag)(Mp:List Md)(Zp:List D)(Up:L2.St)(M:List Md)(Z:List D)(U:L2.St)(H P:Hp)(F:List av):Prop:=
 Zp.length=Mp.length/\Up.length=Mp.length/\StR K (Mp++M) (Zp++Z) (Up++U) H P F
section
variable {K:ag}{Mp M:List Md}{Zp Z:List D}{Up U:L2.St}{H H' P:Hp}{F:List av}
def Pend.e(h:Pend K Mp Zp Up M Z U H P F):StE K M Z U H P F:=by
 obtain⟨l1,l2,S⟩:=h;obtain⟨G,h1,h2,h3⟩:=S.all;obtain⟨G1,G2,rfl,_,h4⟩:=h1.splitAt l1 l2;exact⟨⟨G2,h4,λa ha=>h3 a (ah _ ha)⟩,S.lst,S.prot⟩
theorem Pend.grow(h:Pend K Mp Zp Up M Z U H P F)(e:Same H H'):Pend K Mp Zp Up M Z U H' P F:=⟨h.1,h.2.1,h.2.2.grow e⟩
def Pend.new(h:Pend K Mp Zp Up M Z U H P F)(e:Same H H')(o:Own K H' (fp++F) u v d fp)(nd:fp.Nodup)(fr:∀a∈fp,H a=xn):Pend K (Mp++[.own u]) (Zp++[d]) (Up++[cz v]) M Z U H' P (fp++F):=by
 obtain⟨l1,l2,S⟩:=h;refine⟨by simp[l1],by simp[l2],?_⟩;have S1:=S.more e fr (o.lst u);obtain⟨G,h1,h2,h3⟩:=S.all;obtain⟨G1,G2,rfl,h4,h5⟩:=h1.splitAt l1 l2;have hc:Same (cut H F) (cut H' (fp++F)):=P7 e fr;have k:∀a∈G1++G2,H' a=H a:=λa ha=>S.toE.keep e a (h3 a ha)
 have q:=(h4.frame hc λa ha=>k a (aj _ ha)).join ((i7 (m:=.own u) (d:=d) (o:=cz v) (f:=fp) ⟨v,rfl,o⟩ (h5.frame hc λa ha=>k a (ah _ ha))));refine⟨⟨G1++(fp++G2),by simpa using q,a1s h2 nd λa ha z=>?_,λa ha=>?_⟩,S1.lst,S1.prot⟩
 ·obtain⟨ys,w⟩:=S.lst a (h3 a z);rw[fr a ha]at w;cases w
 ·rcases a5B ha with z|z
  ·exact aj _ z
  ·exact ah _ (h3 a z)
def Pend.move(h:Pend K Mp Zp Up M Z U H P F)(hm:M[i]?=cz (.own u)):∃v,U[i]?=cz (cz v)/\Pend K (Mp++[.own u]) (Zp++[Z.getD i .none]) (Up++[cz v]) (M.set i .dead) Z U H P F:=by
 obtain⟨l1,l2,S⟩:=h;obtain⟨G,h1,h2,h3⟩:=S.all;obtain⟨G1,G2,rfl,h4,h5⟩:=h1.splitAt l1 l2;obtain⟨d,o,f,pre,post,e1,e2,⟨v,rfl,e3⟩,rfl,e5⟩:=h5.at_ hm;have q:=e5 H F .dead d (cz v) [] (λ_ _=>rfl) (Same.refl _) rfl;rw[set_same e1,set_same e2]at q;refine⟨v,e2,by simp[l1],by simp[l2],⟨⟨G1++(f++(pre++([]++post))),?_,?_,λa ha=>h3 a ?_⟩,S.lst,S.prot⟩⟩
 ·have:=h4.join (i7 (m:=.own u) (d:=d) (o:=cz v) (f:=f) ⟨v,rfl,e3⟩ q);rw[A1 e1];simpa using this
 ·rw[bx];refine (List.Perm.nodup_iff ?_).mp h2;refine gq G1 ?_;exact List.perm_append_comm_assoc pre f post
 ·simp only[ao,bx]at ha ⊢;rcases ha with z|z|z|z
  ·exact .inl z
  ·exact .inr (.inr (.inl z))
  ·exact .inr (.inl z)
  ·exact .inr (.inr (.inr z))
end
noncomputable def PMX(X:Cx)(M:List Md)(e:Expr)(f:EvE)(u:Ty)(M1:List Md):Prop:=
 ∃t,PE X e t/\∀(Mp:List Md) (Zp:List D) (Up:L2.St) (Z:List D) (U:L2.St) (H P:Hp) (F:List av) (d:D) (Q:VK),Pend X.K Mp Zp Up M Z U H P F->f Z=cz d->
  (∀v H' F',Same H H'->Pend X.K (Mp++[.own u]) (Zp++[d]) (Up++[cz v]) M1 Z U H' P F'->Q v H')->t U H Q
noncomputable def PMA(X:Cx)(M:List Md)(es:List Expr)(f:EvA)(us:List Ty)(M1:List Md):Prop:=
 ∃t,PA X es t/\∀(Mp:List Md) (Zp:List D) (Up:L2.St) (Z:List D) (U:L2.St) (H P:Hp) (F:List av) (ds:List D) (Q:List V->Hp->Prop),Pend X.K Mp Zp Up M Z U H P F->f Z=cz ds->
  (∀vs H' F',vs.length=us.length->ds.length=us.length->Same H H'->Pend X.K (Mp++us.map .own) (Zp++ds) (Up++vs.map cz) M1 Z U H' P F'->Q vs H')->t U H Q
section
variable {X:Cx}{M M1 M2:List Md}{e:Expr}{es:List Expr}{f:EvE}{fa:EvA}{u:Ty}{us:List Ty}{pos:fW}
def a9(h:PX X M e f (.new u)):PMX X M e f u M:=by
 obtain⟨t,p,q⟩:=h.out;refine⟨t,p,λMp Zp Up Z U H P F d Q S hf k=>q Z U H P F d Q S.e hf λv H' e ⟨fp,o,nd,fr⟩=>k v H' _ e (S.new e o nd fr)⟩
def E3(i:Nat)(hN:X.N[i]?=cz x:=by rfl)(hv:autoParam (Vis X.env.scope x) ZY._auto_1)(hd:autoParam ((x==("__debug__":bE))=yp) ZV._auto_1)
  (iC:autoParam ((x==("__classdict__":bE))=yp) ZV._auto_1) (hm:M[i]?=cz (.own u):=by rfl):PMX X M (.Name x pos) (a6 i) u (M.set i .dead):=by
 refine⟨_,y8 hN hv hd iC,λMp Zp Up Z U H P F d Q S hf k=>?_⟩;cases hf
 obtain⟨v,e,S'⟩:=S.move hm;exact⟨v,e,k v H F (Same.refl _) S'⟩
def a9D:PMA X M [] c6 [] M:=⟨_,p9,λMp Zp Up Z U H P F ds Q S hf k=>by
 cases hf
 exact k [] H F rfl rfl (Same.refl _) (by simpa using S)⟩
def a0V(h:PMX X M e f u M1)(hr:PMA X M1 es fa us M2)(hs:au (e::es) X.env=(yp,cK e X.env)::au es X.env:=by rfl):PMA X M (e::es) (a7 f fa) (u::us) M2:=by
 obtain⟨t,p,q⟩:=h;obtain⟨tr,pr,qr⟩:=hr;refine⟨_,l0 p pr hs,λMp Zp Up Z U H P F ds Q S hf k=>?_⟩;obtain⟨x,h1,g1⟩:=bnd hf;obtain⟨xs,h2,g2⟩:=bnd g1;cases g2
 refine q Mp Zp Up Z U H P F x _ S h1 λv H1 F1 e1 S1=>qr _ _ _ Z U H1 P F1 xs _ S1 h2 λvs H2 F2 l1 l2 e2 S2=>k (v::vs) H2 F2 (by simp[l1]) (by simp[l2]) (e1.trans e2) ?_
 simpa using S2
def Pend.pack{Zp Z:List D}{us:List Ty}{vs:List V}(h:Pend K (Mp++us.map .own) (Zp++ds) (Up++vs.map cz) M Z U H P F)
  (lp:Zp.length=Mp.length) (lq:Up.length=Mp.length) (l1:vs.length=us.length) (l2:ds.length=us.length) (hp:H p=xn)
  (mk:∀G,OwnTs K H F us vs ds G->G.Nodup->(∀a∈G,a∈F)->∃sL F',(∀a,a∈F'↔a∈sL\/a∈F)/\(∀a∈sL,a=p\/a∈G)/\sL.Nodup/\Own K (upd H p o) F' u (.ref p) d sL/\(p∈sL->∃ys,o=.lst ys)) :
  ∃F',Pend K (Mp++[.own u]) (Zp++[d]) (Up++[cz (.ref p)]) M Z U (upd H p o) P F':=by
 obtain⟨_,_,S⟩:=h;obtain⟨G,h1,h2,h3⟩:=S.all;obtain⟨G1,G2,rfl,h4,h5⟩:=h1.splitAt (by simp[lp,l2]) (by simp[lq,l1]);obtain⟨G3,G4,rfl,h6,h7⟩:=h4.splitAt lp lq;have Ds:G4.Nodup:=by rw[bu]at h2;exact (bu.mp h2.1).2.1
 obtain⟨sL,F',uP,zr,mw,own,gT⟩:=mk G4 (W9 h7) Ds λa ha=>h3 a (aj _ (ah _ ha))
 have yW:p∉F:=λz=>by obtain⟨ys,w⟩:=S.lst p z;rw[hp]at w;cases w
 have hc:Same (cut H F) (cut (upd H p o) F'):=λa o' ha=>by
  obtain⟨n1,n2⟩:=m8 ha;have iU:a≠p:=λz=>by rw[z,hp]at n2;cases n2
  refine i9 (λz=>?_) (by rw[c7 iU];exact n2);rcases (uP a).mp z with w|w
  ·rcases zr a w with y|y
   ·exact iU y
   ·exact n1 (h3 a (aj _ (ah _ y)))
  ·exact n1 w
 have k:∀a∈F,upd H p o a=H a:=λa ha=>c7 λz=>yW (z▸ha)
 have q:=(h6.frame hc λa ha=>k a (h3 a (aj _ (aj _ ha)))).join (i7 (m:=.own u) (d:=d) (o:=cz (.ref p)) (f:=sL) ⟨_,rfl,own⟩ (h5.frame hc λa ha=>k a (h3 a (ah _ ha))));refine⟨F',by simp[lp],by simp[lq],⟨⟨G3++(sL++G2),by simpa using q,a1s ?_ mw λa ha z=>?_,λa ha=>?_⟩,λa ha=>?_,S.prot.trans hc⟩⟩
 ·rw[aN]at h2;exact P8 h2
 ·rcases zr a ha with w|w
  ·subst w;exact yW (h3 a (by
    rcases ao.mp z with y|y
    ·exact aj _ (aj _ y)
    ·exact ah _ y))
  ·rw[aN]at h2;exact a1t h2 a w z
 ·rcases a5B ha with z|z
  ·exact (uP a).mpr (.inl z)
  ·refine (uP a).mpr (.inr (h3 a ?_));rcases ao.mp z with y|y
   ·exact aj _ (aj _ y)
   ·exact ah _ y
 ·rcases (uP a).mp ha with z|z
  ·rcases zr a z with w|w
   ·subst w;obtain⟨ys,rfl⟩:=gT z;exact⟨⟨.lst ys,trivial⟩,f8⟩
   ·have mf:=h3 a (aj _ (ah _ w));obtain⟨ys,y⟩:=S.lst a mf;exact⟨ys,by rw[k a mf];exact y⟩
  ·obtain⟨ys,y⟩:=S.lst a z;exact⟨ys,by rw[k a z];exact y⟩
def a9E{j}(h:PMA X M es fa us M1)(hn:autoParam (us.length<=1000) ZV._auto_1):PMX X M (.Tuple es j pos) (K1 fa) (.tp us) M1:=by
 obtain⟨t,p,q⟩:=h;refine⟨_,a5s p,λMp Zp Up Z U H P F d Q S hf k=>?_⟩;obtain⟨ds,h1,g1⟩:=bnd hf;cases g1
 refine q Mp Zp Up Z U H P F ds _ S h1 λvs H1 F1 l1 l2 e1 S1=>⟨by rw[l1];exact eN (Y8 hn),λx hx=>?_⟩
 have yF:x∉F1:=λz=>by obtain⟨ys,w⟩:=S1.2.2.lst x z;rw[hx]at w;cases w
 obtain⟨F2,S2⟩:=S1.pack (o:=.tup vs) (u:=.tp us) (d:=.tuple ds) S.1 S.2.1 l1 l2 hx λG o nd sub=>by
  refine⟨G,F1,λa=>⟨λz=>.inr z,λz=>z.elim (sub a) id⟩,λa ha=>.inr ha,nd,?_,λz=>absurd (sub x z) yF⟩;simp only[Own];refine⟨x,vs,ds,rfl,f8,yF,rfl,o.frame (P6 (k8 hx _)) us λa ha=>c7 λz=>yF (z▸sub a ha)⟩
 exact k _ _ F2 (e1.trans (k8 hx _)) S2
end
def dAt:Ty->D->List Nat->Option (Ty×D)
 |u,d,[]=>cz (u,d)
 |.l u,.list ds,j::p=>(ds[j]?).bind λd=>dAt u d p
 |.tp us,.tuple ds,j::p=>(us[j]?).bind λu=>(ds[j]?).bind λd=>dAt u d p
 |_,_,_=>xn
def a0W:D->List Nat->D->D
 |_,[],e=>e
 |.list ds,j::p,e=>.list (ds.set j (a0W (ds.getD j .none) p e))
 |.tuple ds,j::p,e=>.tuple (ds.set j (a0W (ds.getD j .none) p e))
 |d,_,_=>d
def wk(H:Hp):V->List Nat->V->Prop
 |v,[],w=>w=v
 |v,j::p,w=>∃a xs v1,v=.ref a/\(H a=cz (.lst xs)\/H a=cz (.tup xs))/\xs[j]?=cz v1/\wk H v1 p w
theorem a9F(e:Same H H'):∀{p:List Nat} {v w:V},wk H v p w->wk H' v p w
 |[],_,_,h=>h
 |j::p,_,_,h=>by
  obtain⟨a,xs,v1,h1,h2,h3,h4⟩:=h;exact⟨a,xs,v1,h1,h2.imp (e _ _) (e _ _),h3,a9F e h4⟩
theorem a9G:∀{p:List Nat} {v w:V},wk H v p w->w=.ref a->(H a=cz (.lst xs)\/H a=cz (.tup xs))->xs[j]?=cz w'->wk H v (p++[j]) w'
 |[],v,w,h,e,h1,h2=>by
  have h':w=v:=h;subst h';exact⟨a,xs,w',e,h1,h2,rfl⟩
 |k::p,v,w,h,e,h1,h2=>by
  obtain⟨a',kn,v1,q1,q2,q3,q4⟩:=h;exact⟨a',kn,v1,q1,q2,q3,a9G q4 e h1 h2⟩
section
variable {K:ag}{H H':Hp}{F F':List av}
theorem ListAll.zip:∀{ds:List D} {xs:List V} {fp:List av} {j:Nat} {d:D},ListAll (Own K H F u) xs ds fp->ds[j]?=cz d->
  ∃v f pre post,xs[j]?=cz v/\Own K H F u v d f/\fp=pre++(f++post)/\
   ∀(H':Hp) (F':List av) (v':V) (d':D) (f':List av),(∀a∈pre++post,H' a=H a)->Same (cut H F) (cut H' F')->Own K H' F' u v' d' f'->ListAll (Own K H' F' u) (xs.set j v') (ds.set j d') (pre++(f'++post))
 |[],_,_,j,d,_,e=>by simp at e
 |d0::ds,_,_,0,d,h,e=>by
  obtain⟨v,r,f,g,rfl,rfl,h1,h2⟩:=h.cons_inv;have:d0=d:=by simpa using e
  subst this;refine⟨v,f,[],g,rfl,h1,rfl,λH' F' v' d' f' k e' o=>?_⟩;show ListAll (Own K H' F' u) (v'::r) (d'::ds) (f'++g);exact k9 o (l5 e' h2 k)
 |d0::ds,_,_,j+1,d,h,e=>by
  obtain⟨v,r,f,g,rfl,rfl,h1,h2⟩:=h.cons_inv;obtain⟨w,f',pre,post,e1,e2,e3,e4⟩:=ListAll.zip (j:=j) h2 (by simpa using e);subst e3;refine⟨w,f',f++pre,post,by simpa using e1,e2,by rw[aN],λH' F' v' d' g' k e' o=>?_⟩;rw[aN];refine k9 (h1.frame e' u λa ha=>k a ?_) (e4 H' F' v' d' g' (λa ha=>k a ?_) e' o)
  ·rw[aN];exact aj _ ha
  ·rw[aN];exact ah _ ha
theorem OwnTs.zip:∀{us:List Ty} {ds:List D} {xs:List V} {fp:List av} {j:Nat} {u:Ty} {d:D},OwnTs K H F us xs ds fp->us[j]?=cz u->ds[j]?=cz d->
  ∃v f pre post,xs[j]?=cz v/\Own K H F u v d f/\fp=pre++(f++post)/\
   ∀(H':Hp) (F':List av) (d':D) (f':List av),(∀a∈pre++post,H' a=H a)->Same (cut H F) (cut H' F')->Own K H' F' u v d' f'->OwnTs K H' F' us xs (ds.set j d') (pre++(f'++post))
 |[],_,_,_,j,u,d,_,e,_=>by simp at e
 |u0::us,_,_,_,0,u,d,h,e,e'=>by
  simp only[OwnTs]at h;obtain⟨v,r,d0,ds,f,g,rfl,rfl,rfl,h1,h2⟩:=h;have:u0=u:=by simpa using e
  subst this;have:d0=d:=by simpa using e'
  subst this;refine⟨v,f,[],g,rfl,h1,rfl,λH' F' d' f' k e' o=>?_⟩;show OwnTs K H' F' (u0::us) (v::r) (d'::ds) (f'++g);simp only[OwnTs];exact⟨v,r,d',ds,f',g,rfl,rfl,rfl,o,h2.frame e' us k⟩
 |u0::us,_,_,_,j+1,u,d,h,e,e'=>by
  simp only[OwnTs]at h;obtain⟨v,r,d0,ds,f,g,rfl,rfl,rfl,h1,h2⟩:=h;obtain⟨w,f',pre,post,e1,e2,e3,e4⟩:=OwnTs.zip (j:=j) h2 (by simpa using e) (by simpa using e');subst e3;refine⟨w,f',f++pre,post,by simpa using e1,e2,by rw[aN],λH' F' d' g' k e' o=>?_⟩;rw[aN];show OwnTs K H' F' (u0::us) (v::r) (d0::ds.set j d') (f++(pre++(g'++post)));simp only[OwnTs];refine⟨v,r,d0,_,f,_,rfl,rfl,rfl,h1.frame e' u0 λa ha=>k a ?_,e4 H' F' d' g' (λa ha=>k a ?_) e' o⟩
  ·rw[aN];exact aj _ ha
  ·rw[aN];exact ah _ ha
theorem Own.path:∀(p:List Nat) {u t:Ty} {v w:V} {d:D} {fp:List av} {ds:List D},Own K H F u v d fp->dAt u d p=cz (.l t,.list ds)->wk H v p w->
  ∃b xs fs pre post,w=.ref b/\H b=cz (.lst xs)/\fp=pre++((b::fs)++post)/\ListAll (Own K H F t) xs ds fs/\
   ∀(H':Hp) (F':List av) (kn:List V) (jC:List D) (jM:List av),(∀a∈pre++post,H' a=H a)->Same (cut H F) (cut H' F')->H' b=cz (.lst kn)->ListAll (Own K H' F' t) kn jC jM->
    Own K H' F' u v (a0W d p (.list jC)) (pre++((b::jM)++post))
 |[],u,t,v,w,d,fp,ds,h,hd,hw=>by
  have jX:cz (u,d)=cz (.l t,.list ds):=hd;cases jX
  have yI:w=v:=hw;subst yI;simp only[Own]at h;rcases h with⟨_,hi,_⟩|⟨a,xs,jC,fs,rfl,h1,h2,rfl,h3⟩
  ·simp only[imm]at hi;cases hi
  ·cases h2
   refine⟨a,xs,fs,[],[],rfl,h1,by simp,h3,λH' F' kn jC jM _ _ k o=>?_⟩;simp only[Own,a0W,bx,bb];exact .inr ⟨a,kn,jC,jM,rfl,k,rfl,rfl,o⟩
 |j::p,u,t,v,w,d,fp,ds,h,hd,hw=>by
  obtain⟨a0,sk,v1,rfl,rG,uI,hw⟩:=hw;cases u with
  |l u=>
   cases d with
   |list es=>
    have jX:(es[j]?).bind (λd=>dAt u d p)=cz (.l t,.list ds):=hd;obtain⟨d1,g1,g2⟩:=bnd jX;simp only[Own]at h;rcases h with⟨_,hi,_⟩|⟨a,xs,jn,fs,e0,h1,h2,rfl,h3⟩
    ·simp only[imm]at hi;cases hi
    ·cases h2
     cases e0
     have rE:sk=xs:=by rcases rG with z|z<;>rw[h1]at z<;>cases z;rfl
     subst rE;obtain⟨v2,f,pre,post,z1,z2,rfl,z4⟩:=h3.zip g1;rw[uI]at z1;cases z1
     obtain⟨b,ys,jM,mY,kI,rfl,q2,rfl,q4,q5⟩:=Own.path p z2 g2 hw;refine⟨b,ys,jM,a0::(pre++mY),kI++post,rfl,q2,by simp,q4,λH' F' kn jC zT k e' hb o=>?_⟩;have k1:∀a∈pre++post,H' a=H a:=λa ha=>k a (by simp only[ao,aD]at ha ⊢;rcases ha with z|z;exact .inl (.inr (.inl z));exact .inr (.inr z))
     have k2:∀a∈mY++kI,H' a=H a:=λa ha=>k a (by simp only[ao,aD]at ha ⊢;rcases ha with z|z;exact .inl (.inr (.inr z));exact .inr (.inl z))
     have o1:=q5 H' F' kn jC zT k2 e' hb o;have o2:=z4 H' F' _ _ _ k1 e' o1;rw[set_same uI]at o2;show Own K H' F' (.l u) (.ref a0) (.list (es.set j (a0W (es.getD j .none) p (.list jC)))) _;rw[A1 g1];simp only[Own];refine .inr ⟨a0,sk,_,_,rfl,(k a0 (by simp)).trans h1,rfl,?_,o2⟩;simp
   |_=>cases hd
  |tp us=>
   cases d with
   |tuple es=>
    have jX:(us[j]?).bind (λu=>(es[j]?).bind λd=>dAt u d p)=cz (.l t,.list ds):=hd;obtain⟨u1,g0,zV⟩:=bnd jX;obtain⟨d1,g1,g2⟩:=bnd zV;simp only[Own]at h;obtain⟨a,xs,jn,e0,h1,h0,h2,h3⟩:=h;cases h2
    cases e0
    have rE:sk=xs:=by rcases rG with z|z<;>rw[h1]at z<;>cases z;rfl
    subst rE;obtain⟨v2,f,pre,post,z1,z2,rfl,z4⟩:=h3.zip g0 g1;rw[uI]at z1;cases z1
    obtain⟨b,ys,jM,mY,kI,rfl,q2,rfl,q4,q5⟩:=Own.path p z2 g2 hw;refine⟨b,ys,jM,pre++mY,kI++post,rfl,q2,by simp,q4,λH' F' kn jC zT k e' hb o=>?_⟩;have k1:∀a∈pre++post,H' a=H a:=λa ha=>k a (by simp only[ao]at ha ⊢;rcases ha with z|z;exact .inl (.inl z);exact .inr (.inr z))
    have k2:∀a∈mY++kI,H' a=H a:=λa ha=>k a (by simp only[ao]at ha ⊢;rcases ha with z|z;exact .inl (.inr z);exact .inr (.inl z))
    have o1:=q5 H' F' kn jC zT k2 e' hb o;have o2:=z4 H' F' _ _ k1 e' o1;show Own K H' F' (.tp us) (.ref a0) (.tuple (es.set j (a0W (es.getD j .none) p (.list jC)))) _;rw[A1 g1];obtain⟨n1,n2⟩:=m8 (e' a0 _ (i9 h0 h1));simp only[Own];refine⟨a0,sk,_,rfl,n2,n1,rfl,?_⟩;simpa using o2
   |_=>cases hd
  |i=>cases hd
  |f=>cases hd
  |d kt u=>cases hd
def X0{N O:List av}(h:O.Nodup)(k:∀a,N.count a<=O.count a):N.Nodup:=du.mpr λa=>cF (k a) (du.mp h a)
def Pend.put{Z:List D}(h:Pend K ([]++[.own t]) ([]++[d]) ([]++[cz v]) M Z U H P F)(hm:M[i]?=cz (.own u))(h0:U[i]?=cz (cz v0))(hd:dAt u (Z.getD i .none) p=cz (.l t,.list ds))(hw:wk H v0 p w) :
  ∃b xs,w=.ref b/\H b=cz (.lst xs)/\xs.length=ds.length/\StR K M (Z.set i (a0W (Z.getD i .none) p (.list (ds++[d])))) U (upd H b (.lst (xs++[v]))) P F/\
   ∀j,j<ds.length->StR K M (Z.set i (a0W (Z.getD i .none) p (.list (ds.set j d)))) U (upd H b (.lst (xs.set j v))) P F:=by
 obtain⟨_,_,S⟩:=h;obtain⟨G,h1,h2,h3⟩:=S.all;have nE:StAll K H F (.own t::M) (d::Z) (cz v::U) G:=by simpa using h1
 simp only[StAll]at nE;obtain⟨d',Z',o',U',fv,G2,e1,e2,rfl,⟨v',e3,ov⟩,h5⟩:=nE;cases e1
 cases e2
 cases e3
 obtain⟨dd,oo,f,pre,post,q1,q2,⟨v2,rfl,q3⟩,rfl,q5⟩:=h5.at_ hm;rw[h0]at q2;cases q2
 rw[A1 q1]at hd;obtain⟨b,xs,fs,mY,kI,rfl,r2,rfl,r4,r5⟩:=q3.path p hd hw;have Ep:b∈F:=h3 b (by simp);have gQ:∀o,Same (cut H F) (cut (upd H b o) F):=λo a o' ha=>by
  obtain⟨n1,n2⟩:=m8 ha;exact i9 n1 (by rw[c7 (show a≠b from λz=>n1 (z▸Ep))];exact n2)
 have iF:∀a,a≠b\/(pre++post).count a=0/\(mY++kI).count a=0/\fs.count a=0/\fv.count a=0:=λa=>by
  by_cases e:a=b
  ·subst e;have:=du.mp h2 a;simp only[bG,bp,xa]at this ⊢;exact .inr ⟨by lia,by lia,by lia,by lia⟩
  ·exact .inl e
 have kk:∀(l:List av) (o:HO),(∀a,a=b->l.count a=0)->∀a∈l,upd H b o a=H a:=λl o hc a ha=>c7 λz=>by
  have:=hc a z;rw[fB]at this;exact this ha
 have c1:∀a,a=b->(pre++post).count a=0:=λa e=>((iF a).resolve_left (λn=>n e)).1
 have c2:∀a,a=b->(mY++kI).count a=0:=λa e=>((iF a).resolve_left (λn=>n e)).2.1
 have c3:∀a,a=b->fs.count a=0:=λa e=>((iF a).resolve_left (λn=>n e)).2.2.1
 have c4:∀a,a=b->fv.count a=0:=λa e=>((iF a).resolve_left (λn=>n e)).2.2.2
 have fin:∀(kn:List V) (jC:List D) (jM:List av),ListAll (Own K (upd H b (.lst kn)) F t) kn jC jM->(∀a,jM.count a<=fs.count a+fv.count a)->StR K M (Z.set i (a0W dd p (.list jC))) U (upd H b (.lst kn)) P F:=λkn jC jM ha oI=>by
  have o1:=r5 (upd H b (.lst kn)) F kn jC jM (kk _ _ c2) (gQ _) f8 ha;have q:=q5 (upd H b (.lst kn)) F (.own u) (a0W dd p (.list jC)) (cz v0) _ (kk _ _ c1) (gQ _) ⟨v0,rfl,o1⟩;rw[set_same (l:=U) h0,set_same (l:=M) hm]at q;refine⟨⟨_,q,X0 h2 λa=>?_,λa ha=>?_⟩,λa ha=>?_,S.prot.trans (gQ _)⟩
  ·have:=oI a;simp only[bG,bp,eF];lia
  ·have hc:0<(fv++(pre++(mY++(b::fs++kI)++post))).count a:=by
    have h0:=fA.mpr ha;have:=oI a;simp only[bG,bp,eF]at h0 ⊢;lia
   exact h3 a (fA.mp hc)
  ·by_cases e:a=b
   ·subst e;exact⟨⟨.lst kn,trivial⟩,f8⟩
   ·obtain⟨ys,y⟩:=S.lst a ha;exact⟨ys,by rw[c7 e];exact y⟩
 rw[A1 q1];refine⟨b,xs,rfl,r2,r4.length,fin (xs++[v]) (ds++[d]) (fs++fv) ?_ λa=>by rw[bG];exact ay _,λj hj=>?_⟩
 ·refine (l5 (gQ _) r4 (kk _ _ c3)).append ?_;have:=k9 (R:=Own K (upd H b (.lst (xs++[v]))) F t) (ov.frame (gQ _) t (kk _ _ c4)) l8
  rwa[bb]at this
 ·obtain⟨v3,f3,a1,a2,s1,s2,rfl,s4⟩:=r4.zip (ab hj);have c5:∀a,a=b->(a1++a2).count a=0:=λa e=>by have:=c3 a e;simp only[bG]at this ⊢;lia
  refine fin (xs.set j v) (ds.set j d) (a1++(fv++a2)) (s4 _ F v d fv (kk _ _ c5) (gQ _) (ov.frame (gQ _) t (kk _ _ c4))) λa=>?_
  simp only[bG];lia
end
inductive Out where
 |nx (Z:List D)|rt (d:D)|bk (Z:List D)|ct (Z:List D)
abbrev EvS:=List D->Option Out
def EndsOk(K:ag)(P:Hp)(u:Ty)(ML M:List Md)(D:Ends)(o:Out):Prop:=
 match o with
 |.nx Z=>∀U H F,StR K M Z U H P F->D.nx U H
 |.rt d=>∀v H fp,Own K H fp u v d fp->fp.Nodup->(∀a∈fp,P a=xn)->Same P H->D.rt v H
 |.bk Z=>∀U H F,StR K ML Z U H P F->D.bk U H
 |.ct Z=>∀U H F,StR K ML Z U H P F->D.ct U H
noncomputable def spS(K:ag)(u:Ty)(ML M:List Md)(g:EvS)(M':List Md):TS:=λD U H=>∃(Z:List VS.D) (P:Hp) (F:List av) (o:Out),StR K M Z U H P F/\g Z=cz o/\EndsOk K P u ML M' D o
noncomputable def PSX(X:Cx)(u:Ty)(ML M:List Md)(st:iE)(g:EvS)(M':List Md):Prop:=PS X st (spS X.K u ML M g M')
noncomputable def PSsX(X:Cx)(u:Ty)(ML M:List Md)(oz:List iE)(g:EvS)(M':List Md):Prop:=PSs X oz (spS X.K u ML M g M')
section
variable {X:Cx}{u:Ty}{ML M M':List Md}{st:iE}{oz:List iE}{g:EvS}
def PSX.mk(h:∃t,PS X st t/\∀(D:Ends) (Z:List VS.D) (U:L2.St) (H P:Hp) (F:List av) (o:Out),StR X.K M Z U H P F->g Z=cz o->EndsOk X.K P u ML M' D o->t D U H):PSX X u ML M st g M':=by
 obtain⟨t,p,q⟩:=h;exact λpins s U H D I ⟨Z,P,F,o,S,hg,k⟩=>p pins s U H D I (q D Z U H P F o S hg k)
def PSX.out(h:PSX X u ML M st g M'):∃t,PS X st t/\∀(D:Ends) (Z:List VS.D) (U:L2.St) (H P:Hp) (F:List av) (o:Out),StR X.K M Z U H P F->g Z=cz o->EndsOk X.K P u ML M' D o->t D U H:=
 ⟨_,h,λ_ Z _ _ P F o S hg k=>⟨Z,P,F,o,S,hg,k⟩⟩
def PSsX.mk(h:∃t,PSs X oz t/\∀(D:Ends) (Z:List VS.D) (U:L2.St) (H P:Hp) (F:List av) (o:Out),StR X.K M Z U H P F->g Z=cz o->EndsOk X.K P u ML M' D o->t D U H):PSsX X u ML M oz g M':=by
 obtain⟨t,p,q⟩:=h;exact λpins s U H D I ⟨Z,P,F,o,S,hg,k⟩=>p pins s U H D I (q D Z U H P F o S hg k)
def PSsX.out(h:PSsX X u ML M oz g M'):∃t,PSs X oz t/\∀(D:Ends) (Z:List VS.D) (U:L2.St) (H P:Hp) (F:List av) (o:Out),StR X.K M Z U H P F->g Z=cz o->EndsOk X.K P u ML M' D o->t D U H:=
 ⟨_,h,λ_ Z _ _ P F o S hg k=>⟨Z,P,F,o,S,hg,k⟩⟩
end
def Wk(M M1:List Md):Prop:=∀(K:ag) (Z:List D) (U:L2.St) (H P:Hp) (F:List av),StR K M Z U H P F->∃F',StR K M1 Z U H P F'
def n5:Wk M M:=λ_ _ _ _ _ F S=>⟨F,S⟩
def Wk.trans(a:Wk M M1)(b:Wk M1 M2):Wk M M2:=λK Z U H P F S=>by
 obtain⟨F1,S1⟩:=a K Z U H P F S;exact b K Z U H P F1 S1
def m5{M:List Md}(i:Nat)(h:M[i]?=cz m:=by rfl):Wk M (M.set i .dead):=λK Z U H P F S=>⟨F,S.dead h⟩
def a3g{M:List Md}(i:Nat)(h:M[i]?=cz (.own u):=by rfl):Wk M (M.set i (.own .f)):=λK Z U H P F S=>S.freeze h
noncomputable def z9:EvS:=λZ=>cz (.nx Z)
noncomputable def f7(a b:EvS):EvS:=λZ=>(a Z).bind λo=>match o with
 |.nx Z'=>b Z'
 |o=>cz o
noncomputable def j5(i:Nat)(f:EvE):EvS:=λZ=>(f Z).bind λd=>cz (.nx (Z.set i d))
def asP:D->Option (D×D)
 |.tuple [a,b]=>cz (a,b)
 |_=>xn
noncomputable def a6F(i j:Nat)(f:EvE):EvS:=λZ=>(f Z).bind λd=>(asP d).bind λp=>cz (.nx ((Z.set i p.1).set j p.2))
noncomputable def p7(f:EvE):EvS:=λZ=>(f Z).bind λd=>cz (.rt d)
noncomputable def sEx(f:EvE):EvS:=λZ=>(f Z).bind λ_=>cz (.nx Z)
noncomputable def sIf(c:EvT)(a b:EvS):EvS:=λZ=>(c Z).bind λk=>if k then a Z else b Z
noncomputable def sNo:EvS:=λ_=>xn
noncomputable def V8(set:List D->D->Option (List D))(g:EvS):List D->List D->Option Out
 |[],Z=>cz (.nx Z)
 |d::ds,Z=>(set Z d).bind λZ1=>(g Z1).bind λo=>match o with
  |.nx Z'=>V8 set g ds Z'
  |.ct Z'=>V8 set g ds Z'
  |.bk Z'=>cz (.nx Z')
  |.rt d=>cz (.rt d)
def r9(i:Nat):List D->D->Option (List D):=λZ d=>cz (Z.set i d)
def a3h(i j:Nat):List D->D->Option (List D):=λZ d=>(asP d).bind λp=>cz ((Z.set i p.1).set j p.2)
noncomputable def A7(fi:EvA)(set:List D->D->Option (List D))(g:EvS):EvS:=λZ=>(fi Z).bind λds=>V8 set g ds Z
noncomputable def whL(c:EvT)(g:EvS):Nat->List D->Option Out
 |0,_=>xn
 |n+1,Z=>(c Z).bind λk=>if k then (g Z).bind λo=>match o with
  |.nx Z'=>whL c g n Z'
  |.ct Z'=>whL c g n Z'
  |.bk Z'=>cz (.nx Z')
  |.rt d=>cz (.rt d)
  else cz (.nx Z)
noncomputable def sWh(n:List D->Nat)(c:EvT)(g:EvS):EvS:=λZ=>whL c g (n Z) Z
section
variable {K:ag}{M M1:List Md}{Z:List D}{U:L2.St}{H P:Hp}{F:List av}
def StR.pend(S:StR K M Z U H P F):Pend K [] [] [] M Z U H P F:=⟨rfl,rfl,S⟩
def Pend.store{Zp:List D}(h:Pend K (Mp++[.own u]) (Zp++[d]) (Up++[cz v]) M Z U H P F)(lp:Zp.length=Mp.length)(lq:Up.length=Mp.length)(hm:M[i]?=cz m) :
  Pend K Mp Zp Up (M.set i (.own u)) (Z.set i d) (U.set i (cz v)) H P F:=by
 obtain⟨_,_,S⟩:=h;obtain⟨G,h1,h2,h3⟩:=S.all;obtain⟨G1,G2,rfl,h4,h5⟩:=h1.splitAt (by simp[lp]) (by simp[lq]);obtain⟨G3,G4,rfl,h6,h7⟩:=h4.splitAt lp lq;have h8:OwnTs K H F [u] [v] [d] G4:=W9 (us:=[u]) (vs:=[v]) h7;simp only[OwnTs]at h8;obtain⟨v',r,d',e,f,g,e1,e2,rfl,o,rfl,rfl,rfl⟩:=h8;cases e1
 cases e2
 obtain⟨d0,o0,f0,pre,post,q1,q2,q3,rfl,q5⟩:=h5.at_ hm;have q:=h6.join (q5 H F (.own u) d (cz v) f (λ_ _=>rfl) (Same.refl _) ⟨v,rfl,o⟩);refine⟨lp,lq,⟨⟨_,q,X0 h2 λa=>?_,λa ha=>h3 a ?_⟩,S.lst,S.prot⟩⟩
 ·simp only[bG];lia
 ·simp only[ao,bb]at ha ⊢;rcases ha with z|z|z|z
  ·exact .inl (.inl z)
  ·exact .inr (.inl z)
  ·exact .inl (.inr z)
  ·exact .inr (.inr (.inr z))
def Pend.st(h:Pend K [] [] [] M Z U H P F):StR K M Z U H P F:=h.2.2
def Pend.one(h:Pend K ([]++[.own u]) ([]++[d]) ([]++[cz v]) M Z U H P F):∃fp,Own K H F u v d fp/\fp.Nodup/\∀a∈fp,a∈F:=by
 obtain⟨_,_,S⟩:=h;obtain⟨G,h1,h2,h3⟩:=S.all;obtain⟨G1,G2,rfl,h4,h5⟩:=h1.splitAt (A:=[]++[.own u]) (Z1:=[]++[d]) (U1:=[]++[cz v]) rfl rfl;have h8:OwnTs K H F [u] [v] [d] G1:=W9 (us:=[u]) (vs:=[v]) h4;simp only[OwnTs]at h8;obtain⟨v',r,d',e,f,g,e1,e2,rfl,o,rfl,rfl,rfl⟩:=h8;cases e1
 cases e2
 rw[bb]at h2 h3;exact⟨f,o,(bu.mp h2).1,λa ha=>h3 a (aj _ ha)⟩
def b7V(u u1 u2:Ty):Prop:=(u=.f/\u1=.f/\u2=.f)\/(u=.i/\u1=.i/\u2=.i)\/u=.tp [u1,u2]
def Pend.untup(h:Pend K ([]++[.own u]) ([]++[.tuple [d1,d2]]) ([]++[cz v]) M Z U H P F)(hp:b7V u u1 u2) :
  ∃a v1 v2,v=.ref a/\SqT K H a [v1,v2]/\Pend K ([.own u1]++[.own u2]) ([d1]++[d2]) ([cz v1]++[cz v2]) M Z U H P F:=by
 obtain⟨_,_,S⟩:=h;obtain⟨G,h1,h2,h3⟩:=S.all;obtain⟨G1,G2,rfl,h4,h5⟩:=h1.splitAt (A:=[]++[.own u]) (Z1:=[]++[.tuple [d1,d2]]) (U1:=[]++[cz v]) rfl rfl;have h8:OwnTs K H F [u] [v] [.tuple [d1,d2]] G1:=W9 (us:=[u]) (vs:=[v]) h4;simp only[OwnTs]at h8;obtain⟨v',r,d',e,f,g,e1,e2,rfl,o,rfl,rfl,rfl⟩:=h8;cases e1
 cases e2
 have key:∃a v1 v2 f1 f2,v=.ref a/\SqT K H a [v1,v2]/\f=f1++f2/\Own K H F u1 v1 d1 f1/\Own K H F u2 v2 d2 f2:=by
  rcases hp with⟨rfl,rfl,rfl⟩|⟨rfl,rfl,rfl⟩|rfl
  ·obtain⟨rfl,o'⟩:=a9w o;obtain⟨a,xs,rfl,k1,k2⟩:=o'.tup_inv;obtain⟨v1,v2,rfl,k3,k4⟩:=Z0 k2;refine⟨a,v1,v2,[],[],rfl,a0x k1 j9,rfl,?_,?_⟩<;>simp only[Own]
   ·exact⟨trivial,k3⟩
   ·exact⟨trivial,k4⟩
  ·obtain⟨rfl,hi,o'⟩:=a2a o;obtain⟨a,xs,rfl,k1,k2⟩:=o'.tup_inv;obtain⟨v1,v2,rfl,k3,k4⟩:=Z0 k2;simp only[imm,c9,aC]at hi;refine⟨a,v1,v2,[],[],rfl,a0x k1 j9,rfl,?_,?_⟩<;>simp only[Own]
   ·exact⟨trivial,hi.1,k3⟩
   ·exact⟨trivial,hi.2.1,k4⟩
  ·simp only[Own,OwnTs]at o;obtain⟨a,xs,ds,rfl,k1,_,e0,v1,r,Gm,e',f1,g1,rfl,e2,rfl,o1,v2,r2,Gk,Gh,f2,g2,rfl,e3,rfl,o2,rfl,rfl,rfl⟩:=o;cases e0
   cases e2
   cases e3
   exact⟨a,v1,v2,f1,f2,rfl,SqT.of k1,by simp,o1,o2⟩
 obtain⟨a,v1,v2,f1,f2,rfl,k1,rfl,o1,o2⟩:=key;refine⟨a,v1,v2,rfl,k1,rfl,rfl,⟨⟨f1++(f2++G2),?_,by simpa using h2,λa ha=>h3 a (by simpa using ha)⟩,S.lst,S.prot⟩⟩;exact i7 (m:=.own u1) ⟨v1,rfl,o1⟩ (i7 (m:=.own u2) ⟨v2,rfl,o2⟩ h5)
end
section
variable {X:Cx}{u t:Ty}{ML M M1 M2 M':List Md}{st:iE}{oz body BK:List iE}{g g1 g2:EvS}{e tg iter:Expr}{f:EvE}{fc:EvT}{fi:EvA}{c:Cat}{pos:fW}
def EndsOk.pre{K:ag}{P:Hp}{D:Ends}{o:Out}(h:EndsOk K P u ML M' D o)(hw:Wk M M'):EndsOk K P u ML M D o:=by
 cases o with
 |nx Z=>exact λU H F S=>by obtain⟨F',S'⟩:=hw K Z U H P F S;exact h U H F' S'
 |rt d=>exact h
 |bk Z=>exact h
 |ct Z=>exact h
def PSsX.weak(h:PSsX X u ML M1 oz g M2)(a:Wk M M1)(b:Wk M2 M'):PSsX X u ML M oz g M':=by
 obtain⟨t,p,q⟩:=h.out;refine .mk ⟨t,p,λD Z U H P F o S hg k=>?_⟩;obtain⟨F1,S1⟩:=a _ Z U H P F S;exact q D Z U H P F1 o S1 hg (k.pre b)
def PSX.weak(h:PSX X u ML M1 st g M2)(a:Wk M M1)(b:Wk M2 M'):PSX X u ML M st g M':=by
 obtain⟨t,p,q⟩:=h.out;refine .mk ⟨t,p,λD Z U H P F o S hg k=>?_⟩;obtain⟨F1,S1⟩:=a _ Z U H P F S;exact q D Z U H P F1 o S1 hg (k.pre b)
def v9:PSsX X u ML M [] z9 M:=.mk ⟨_,b5E,λD Z U H P F o S hg k=>by cases hg;exact k U H F S⟩
def b7(h1:PSX X u ML M st g1 M1)(h2:PSsX X u ML M1 oz g2 M'):PSsX X u ML M (st::oz) (f7 g1 g2) M':=by
 obtain⟨t1,p1,q1⟩:=h1.out;obtain⟨t2,p2,q2⟩:=h2.out;refine .mk ⟨_,a0L p1 p2,λD Z U H P F o S hg k=>?_⟩;obtain⟨o1,h1,g1⟩:=bnd hg;refine q1 {D with nx:=t2 D} Z U H P F o1 S h1 ?_;cases o1 with
 |nx Z'=>exact λU' H' F' S'=>q2 D Z' U' H' P F' o S' g1 k
 |rt d=>cases g1;exact k
 |bk Z'=>cases g1;exact k
 |ct Z'=>cases g1;exact k
def f6(h1:PSX X u ML M st g M1):PSsX X u ML M [st] g M1:=by
 obtain⟨t1,p1,q1⟩:=h1.out;exact .mk ⟨_,a9q p1,q1⟩
def f9(i:Nat)(hN:X.N.Nodup)(he:PMX X M e f t M1)(hi:X.N[i]?=cz x:=by rfl)(hx:autoParam (Loc X.env.scope x) ZX._auto_1)(hm:M1[i]?=cz m:=by rfl)
  (hs:eR e (cz (.Name x px)) pos.line X.env=pure yp:=by rfl) (hf:autoParam (X.fn x=yn\/X.env.scope.names.lookup x=cz .local) ZW._auto_1):PSX X u ML M (.Assign [.Name x px] e pos) (j5 i f) (M1.set i (.own t)):=by
 obtain⟨te,pe,qe⟩:=he;refine .mk ⟨_,a7K hN hi hx pe hs hf,λD Z U H P F o S hg k=>?_⟩;obtain⟨d,h1,g1⟩:=bnd hg;cases g1
 exact qe [] [] [] Z U H P F d _ S.pend h1 λv H' F' e S'=>k _ _ F' (S'.store rfl rfl hm).st
def b6g(i j:Nat){pt pk}(hN:X.N.Nodup)(hc:X.calm=yn)(he:PMX X M e f t M1)(hp:b7V t u1 u2)(hi:X.N[i]?=cz x:=by rfl)(hj:X.N[j]?=cz y:=by rfl)(hx:autoParam (Loc X.env.scope x) ZX._auto_1)
  (hy:autoParam (Loc X.env.scope y) ZX._auto_1) (gO:autoParam (i≠j) ZV._auto_1) (rM:M1[i]?=cz m1:=by rfl) (tO:M1[j]?=cz m2:=by rfl)
  (DY:autoParam (X.fn x=yn\/X.env.scope.names.lookup x=cz .local) ZW._auto_1) (wc:autoParam (X.fn y=yn\/X.env.scope.names.lookup y=cz .local) ZW._auto_1)
  (hl:(gR [.Name x px,.Name y py] X.env).length=2:=by rfl) (qo:(gR [.Name x px,.Name y py] X.env).findIdx? (·.1)=xn:=by rfl)
  (hg1:PGs X [.Name x px,.Name y py] (a2Q (D0 i) (a2Q (D0 j) b5F)):=by exact u8 (o6 hN hi hx DY) (u8 (o6 hN hj hy wc) R9))
  (hs:yf [.Tuple [.Name x px,.Name y py] pk pt] e pos.line X.env=pure yp:=by rfl) (hw:yg [.Tuple [.Name x px,.Name y py] pk pt] e X.env=pure xn:=by rfl)
  (h1:(gR [.Tuple [.Name x px,.Name y py] pk pt] X.env).map (·.2)=[lG (.Tuple [.Name x px,.Name y py] pk pt) X.env]:=by rfl) :
  PSX X u ML M (.Assign [.Tuple [.Name x px,.Name y py] pk pt] e pos) (a6F i j f) ((M1.set i (.own u1)).set j (.own u2)):=by
 obtain⟨te,pe,qe⟩:=he;refine .mk ⟨_,b2E pe (a1p hc hg1 hl qo) hs hw h1,λD Z U H P F o S hg k=>?_⟩;obtain⟨d,h1,g1⟩:=bnd hg;obtain⟨⟨d1,d2⟩,h2,g2⟩:=bnd g1;cases g2
 have hd:d=.tuple [d1,d2]:=by
  match d,h2 with
  |.tuple [a,b],h2=>cases h2;rfl
 subst hd;refine qe [] [] [] Z U H P F _ _ S.pend h1 λv H' F' e S'=>?_
 obtain⟨a,v1,v2,rfl,k1,S2⟩:=S'.untup hp;refine⟨a,_,rfl,k1,rfl,v1,[v2],rfl,v2,[],rfl,rfl,?_⟩;have S3:=S2.store (i:=j) rfl rfl tO;have ze:(M1.set j (.own u2))[i]?=cz m1:=by rw[bI (cR gO)];exact rM
 have S4:=(Pend.store (Mp:=[]) (Zp:=[]) (Up:=[]) (i:=i) S3 rfl rfl ze).st;rw[sf _ _ (cR gO),sf _ _ (cR gO),sf _ _ (cR gO)]at S4;exact k _ _ F' S4
def j7(he:PMX X M e f u M1):PSX X u ML M (.Return (cz e) pos) (p7 f) M':=by
 obtain⟨te,pe,qe⟩:=he;refine .mk ⟨_,b8t pe,λD Z U H P F o S hg k=>?_⟩;obtain⟨d,h1,g1⟩:=bnd hg;cases g1
 refine qe [] [] [] Z U H P F d _ S.pend h1 λv H' F' e S'=>?_
 obtain⟨fp,o,nd,sub⟩:=S'.one;refine k v H' fp (o.frame (D6 sub) u λ_ _=>rfl) nd (λa ha=>?_) (S'.2.2.prot.trans j9);cases hP:P a with
 |none=>rfl
 |some o'=>
  have:=S'.2.2.prot _ _ hP;rw[a1r (sub a ha)]at this;cases this
def b6h(he:PX X M e f c)(hs:eR e xn pos.line X.env=pure yp:=by rfl):PSX X u ML M (.Expr e pos) (sEx f) M:=by
 obtain⟨te,pe,qe⟩:=he.out;refine .mk ⟨_,R8 pe hs,λD Z U H P F o S hg k=>?_⟩;obtain⟨d,h1,g1⟩:=bnd hg;cases g1
 exact qe Z U H P F d _ S.toE h1 λv H' e _=>k U H' F (S.grow e)
def E4(hc:PTX X M c0 fc)(ha:PSsX X u ML M body g1 M')(hb:PSsX X u ML M BK g2 M'):PSX X u ML M (.If c0 body BK pos) (sIf fc g1 g2) M':=by
 obtain⟨tc,pc,qc⟩:=hc.out;obtain⟨ta,pa,qa⟩:=ha.out;obtain⟨tb,pb,qb⟩:=hb.out;refine .mk ⟨_,c0O pc pa pb,λD Z U H P F o S hg k=>?_⟩;obtain⟨b,h1,g1⟩:=bnd hg;refine qc Z U H P F b _ S.toE h1 λH1 e1=>?_
 cases b with
 |true=>exact a5x (qa D Z U H1 P F o (S.grow e1) g1 k)
 |false=>exact a7T (qb D Z U H1 P F o (S.grow e1) g1 k)
def b7W:PSX X u ML M st sNo M':=.mk ⟨_,b2D,λD Z U H P F o S hg k=>by cases hg⟩
def b3f(K:ag)(M MB:List Md)(g:TG)(set:List D->D->Option (List D))(m:D->Prop):Prop:=
 ∀(Z:List D) (U:L2.St) (H P:Hp) (F:List av) (x:V) (d:D) (Z':List D) (Q:L2.St->Hp->Prop),StR K M Z U H P F->Den K (cut H F) x d->m d->set Z d=cz Z'->(∀U' F',StR K MB Z' U' H P F'->Q U' H)->g x U H Q
def mI(d:D):Prop:=imm d=yn
def mF(_:D):Prop:=True
def T4(hm:M[i]?=cz m:=by rfl):b3f K M (M.set i (.own .f)) (D0 i) (r9 i) mF:=by
 intro Z U H P F x d Z' Q S hd _ hs q;cases hs
 exact q _ _ (S.set (u:=.f) (fp:=[]) hm (Same.refl _) (by simp only[Own,bx];exact⟨trivial,hd⟩) bD λa ha=>(nomatch ha))
def a0B(hm:M[i]?=cz m:=by rfl):b3f K M (M.set i (.own .i)) (D0 i) (r9 i) mI:=by
 intro Z U H P F x d Z' Q S hd hi hs q;cases hs
 exact q _ _ (S.set (u:=.i) (fp:=[]) hm (Same.refl _) (by simp only[Own,bx];exact⟨trivial,hi,hd⟩) bD λa ha=>(nomatch ha))
def a8e(hw:w=.f\/w=.i)(gO:autoParam (i≠j) ZV._auto_1)(rM:M[i]?=cz m1:=by rfl)(tO:M[j]?=cz m2:=by rfl):b3f K M ((M.set i (.own w)).set j (.own w)) (b8w K 2 (a2Q (D0 i) (a2Q (D0 j) b5F))) (a3h i j) (λd=>w=.i->imm d=yn):=by
 intro Z U H P F x d Z' Q S hd hi hs q;obtain⟨⟨d1,d2⟩,h2,g2⟩:=bnd hs;cases g2
 have qY:d=.tuple [d1,d2]:=by
  match d,h2 with
  |.tuple [a,b],h2=>cases h2;rfl
 subst qY;obtain⟨a,xs,rfl,k1,k2⟩:=hd.tup_inv;obtain⟨v1,v2,rfl,k3,k4⟩:=Z0 k2;refine⟨a,_,rfl,a0x k1 j9,rfl,v1,[v2],rfl,v2,[],rfl,rfl,?_⟩;have o1:Own K H ([]++F) w v1 d1 []:=by
  rcases hw with rfl|rfl
  ·simp only[Own,bx];exact⟨trivial,k3⟩
  ·have:=hi rfl;simp only[imm,c9,aC]at this;simp only[Own,bx];exact⟨trivial,this.1,k3⟩
 have o2:Own K H ([]++([]++F)) w v2 d2 []:=by
  rcases hw with rfl|rfl
  ·simp only[Own,bx];exact⟨trivial,k4⟩
  ·have:=hi rfl;simp only[imm,c9,aC]at this;simp only[Own,bx];exact⟨trivial,this.2.1,k4⟩
 have S1:=S.set rM (Same.refl _) o1 bD λa ha=>(nomatch ha)
 exact q _ _ (S1.set (i:=j) (m:=m2) (by rw[bI gO];exact tO) (Same.refl _) o2 bD λa ha=>(nomatch ha))
def B7{set:List D->D->Option (List D)}{m:D->Prop}(hc:X.calm=yn)(hp:ow (aV X.prog X.w) X.A X.env X.xe)(hi:PIX X M tg iter fi)(hg:PG X tg gt)(hs:b3f X.K M MB gt set m)(hm:∀Z ds,fi Z=cz ds->∀d∈ds,m d)(hb:PSsX X u M MB body g M)
  (hf:∀x,dM iter X.env x=pure x:=by intro _;rfl):PSX X u ML M (.For tg iter body [] pos) (A7 fi set g) M:=by
 obtain⟨wi,pi,qi⟩:=hi;obtain⟨tb,pb,qb⟩:=hb.out;refine .mk ⟨_,a7M hp hc pi hg pb hf,λD Z U H P F o S tS k=>?_⟩;obtain⟨ds,h1,g1⟩:=bnd tS;refine qi Z U H P F ds _ S.toE h1 λJ xs Pr H1 e1 hw qw hx=>?_
 have S1:=S.grow e1;have om:=hx.length;refine⟨λi n U' H'=>n=xs.length-i/\i<=xs.length/\∃Z' F',StR X.K M Z' U' H' (cut H1 F) F'/\V8 set g (ds.drop i) Z'=cz o,⟨xs.length,by simp,cG _,Z,F,⟨S1.all,S1.lst,Same.refl _⟩,g1⟩,?_⟩;rintro i n U' H' ⟨rfl,hi,Z',F',S',hfl⟩;have nK:Same (cut H1 F) (cut H' F'):=S'.prot;have q:=qw H' (nK.trans j9);by_cases jk:i<xs.length
 ·refine .inr ⟨hw.go i H' q jk,λU2 H2=>∃Z2 F2,StR X.K M Z2 U2 H2 (cut H1 F) F2/\V8 set g (ds.drop (i+1)) Z2=cz o,λU2 H2 ⟨Z2,F2,S2,h2⟩=>⟨xs.length-(i+1),by lia,rfl,jk,Z2,F2,S2,h2⟩,λx H2 hy=>?_⟩;obtain⟨rfl,nJ⟩:=hw.yld i H' x H2 q jk hy;have mh:i<ds.length:=by lia
  have lV:ds.drop i=ds[i]::ds.drop (i+1):=dA mh;rw[lV]at hfl;obtain⟨Z1,sA,g2⟩:=bnd (show (set Z' ds[i]).bind _=cz o from hfl);obtain⟨o1,hg1,g3⟩:=bnd g2;obtain⟨d',nO,qE⟩:=(hx.up nK).getV nJ;have jX:d'=ds[i]:=by rw[ab mh]at nO;exact (aH nO).symm
  subst jX;refine hs Z' U' H2 (cut H1 F) F' x _ Z1 _ S' qE (hm Z ds h1 _ (dm mh)) sA λU3 F3 S3=>qb _ Z1 U3 H2 (cut H1 F) F3 o1 S3 hg1 ?_
  cases o1 with
  |nx Z2=>exact λU4 H4 F4 S4=>⟨Z2,F4,S4,g3⟩
  |ct Z2=>exact λU4 H4 F4 S4=>⟨Z2,F4,S4,g3⟩
  |bk Z2=>
   have:o=.nx Z2:=(aH g3).symm;subst this;exact λU4 H4 F4 S4=>k U4 H4 F4 ⟨S4.all,S4.lst,S1.prot.trans S4.prot⟩
  |rt d=>
   have:o=.rt d:=(aH g3).symm;subst this;refine λv H4 fp o nd fr e=>k v H4 fp o nd (λa ha=>?_) (S1.prot.trans e)
   exact S1.prot.free (fr a ha)
 ·have e:i=xs.length:=by lia
  subst e;rw[om,gI]at hfl;have:o=.nx Z':=(aH hfl).symm;subst this;exact .inl ⟨hw.stop _ H' q (ay _),k U' H' F' ⟨S'.all,S'.lst,S1.prot.trans S'.prot⟩⟩
def a3i(n:List D->Nat)(hp:ow (aV X.prog X.w) X.A X.env X.xe)(hc:PTX X M c0 fc)(hb:PSsX X u M M body g M):PSX X u ML M (.While c0 body [] pos) (sWh n fc g) M:=by
 obtain⟨tc,pc,qc⟩:=hc.out;obtain⟨tb,pb,qb⟩:=hb.out;refine .mk ⟨_,b2F hp pc pb,λD Z U H P F o S tS k=>?_⟩;refine⟨λn U' H'=>∃Z' F',StR X.K M Z' U' H' P F'/\whL fc g n Z'=cz o,⟨n Z,Z,F,S,tS⟩,?_⟩;rintro n U' H' ⟨Z',F',S',hw⟩;cases n with
 |zero=>cases hw
 |succ n=>
  obtain⟨b,h1,g1⟩:=bnd (show (fc Z').bind _=cz o from hw);refine qc Z' U' H' P F' b _ S'.toE h1 λH1 e1=>?_
  cases b with
  |true=>
   refine a5x ⟨λU2 H2=>∃Z2 F2,StR X.K M Z2 U2 H2 P F2/\whL fc g n Z2=cz o,λU2 H2 z=>⟨n,Fh _,z⟩,?_⟩;obtain⟨o1,hg1,g3⟩:=bnd (show (g Z').bind _=cz o from g1);refine qb _ Z' U' H1 P F' o1 (S'.grow e1) hg1 ?_;cases o1 with
   |nx Z2=>exact λU4 H4 F4 S4=>⟨Z2,F4,S4,g3⟩
   |ct Z2=>exact λU4 H4 F4 S4=>⟨Z2,F4,S4,g3⟩
   |bk Z2=>
    have:o=.nx Z2:=(aH g3).symm;subst this;exact λU4 H4 F4 S4=>k U4 H4 F4 S4
   |rt d=>
    have:o=.rt d:=(aH g3).symm;subst this;exact k
  |false=>
   have:o=.nx Z':=(aH g1).symm;subst this;exact a7T (k U' H1 F' (S'.grow e1))
end
abbrev EvP:=List D->Option (List Nat)
noncomputable def PPX(X:Cx)(M:List Md)(e:Expr)(i:Nat)(f:EvP):Prop:=
 ∃t,PE X e t/\∀(Z:List D) (U:L2.St) (H P:Hp) (F:List av) (p:List Nat) (Q:VK),StE X.K M Z U H P F->f Z=cz p->(∀v v0 H',Same H H'->U[i]?=cz (cz v0)->wk H' v0 p v->Q v H')->t U H Q
noncomputable def p6:EvP:=λ_=>cz []
def x8(u:Ty)(d:D)(p:List Nat):Option (List D):=(dAt u d p).bind λtd=>match td with
 | (.l _,.list ds)=>cz ds
 | (.tp _,.tuple ds)=>cz ds
 |_=>xn
noncomputable def pIx(i:Nat)(u:Ty)(fp:EvP)(fb:EvE):EvP:=λZ=>(fp Z).bind λp=>(x8 u (Z.getD i .none) p).bind λds=>(fb Z).bind λy=>(asI y).bind λk=>(ixN ds.length k).bind λj=>cz (p++[j])
section
variable {K:ag}{H:Hp}{F:List av}
theorem Own.sub:∀(p:List Nat) {u t:Ty} {v w:V} {d d':D} {fp:List av},Own K H F u v d fp->dAt u d p=cz (t,d')->wk H v p w->∃f',Own K H F t w d' f'
 |[],u,t,v,w,d,d',fp,h,hd,hw=>by
  have jX:cz (u,d)=cz (t,d'):=hd;cases jX
  have yI:w=v:=hw;subst yI;exact⟨fp,h⟩
 |j::p,u,t,v,w,d,d',fp,h,hd,hw=>by
  obtain⟨a0,sk,v1,rfl,rG,uI,hw⟩:=hw;cases u with
  |l u=>
   cases d with
   |list es=>
    obtain⟨d1,g1,g2⟩:=bnd (show (es[j]?).bind (λd=>dAt u d p)=cz (t,d') from hd);simp only[Own]at h;rcases h with⟨_,hi,_⟩|⟨a,xs,jn,fs,e0,h1,h2,rfl,h3⟩
    ·simp only[imm]at hi;cases hi
    ·cases h2
     cases e0
     have rE:sk=xs:=by rcases rG with z|z<;>rw[h1]at z<;>cases z;rfl
     subst rE;obtain⟨v2,f,pre,post,z1,z2,rfl,_⟩:=h3.zip g1;rw[uI]at z1;cases z1
     exact Own.sub p z2 g2 hw
   |_=>cases hd
  |tp us=>
   cases d with
   |tuple es=>
    obtain⟨u1,g0,zV⟩:=bnd (show (us[j]?).bind (λu=>(es[j]?).bind λd=>dAt u d p)=cz (t,d') from hd);obtain⟨d1,g1,g2⟩:=bnd zV;simp only[Own]at h;obtain⟨a,xs,jn,e0,h1,h0,h2,h3⟩:=h;cases h2
    cases e0
    have rE:sk=xs:=by rcases rG with z|z<;>rw[h1]at z<;>cases z;rfl
    subst rE;obtain⟨v2,f,pre,post,z1,z2,rfl,_⟩:=h3.zip g0 g1;rw[uI]at z1;cases z1
    exact Own.sub p z2 g2 hw
   |_=>cases hd
  |i=>cases hd
  |f=>cases hd
  |d kt u=>cases hd
def b3g{fp p}(h:Own K H F u v d fp)(hi:x8 u d p=cz ds)(hw:wk H v p w):∃a xs,w=.ref a/\(H a=cz (.lst xs)\/H a=cz (.tup xs))/\xs.length=ds.length:=by
 obtain⟨⟨t,d'⟩,h1,h2⟩:=bnd hi;obtain⟨f',o⟩:=h.sub p h1 hw
 match t,d',h2 with
 |.l t,.list es,h2=>
  cases h2
  simp only[Own]at o;rcases o with⟨_,hi,_⟩|⟨a,xs,jn,fs,e0,h1,h2,rfl,h3⟩
  ·simp only[imm]at hi;cases hi
  ·cases h2
   exact⟨a,xs,e0,.inl h1,h3.length⟩
 |.tp us,.tuple es,h2=>
  cases h2
  simp only[Own]at o;obtain⟨a,xs,jn,e0,h1,h0,h2,h3⟩:=o;cases h2
  exact⟨a,xs,e0,.inr h1,by rw[h3.len.1,h3.len.2]⟩
end
section
variable {X:Cx}{u t w:Ty}{ML M M1 M':List Md}{e b pl:Expr}{f fb:EvE}{fp:EvP}{cb:Cat}{pos apos cP:fW}
def E5(i:Nat)(hN:X.N[i]?=cz x:=by rfl)(hv:autoParam (Vis X.env.scope x) ZY._auto_1)(hd:autoParam ((x==("__debug__":bE))=yp) ZV._auto_1)
  (iC:autoParam ((x==("__classdict__":bE))=yp) ZV._auto_1) (hm:M[i]?=cz (.own u):=by rfl):PPX X M (.Name x pos) i p6:=by
 refine⟨_,y8 hN hv hd iC,λZ U H P F p Q S hf k=>?_⟩;cases hf
 obtain⟨v,f,e,_⟩:=S.get hm;exact⟨v,e,k v v H (Same.refl _) e rfl⟩
def a3j(h:PPX X M pl i fp)(hb:PX X M b fb cb)(hm:M[i]?=cz (.own u):=by rfl)(hs:a0N b:=by exact λ_ _=>rfl):PPX X M (.Subscript pl b pos) i (pIx i u fp fb):=by
 obtain⟨ta,pa,qa⟩:=h;obtain⟨tb,pb,qb⟩:=hb.out;refine⟨_,a6t a3d pa pb hs,λZ U H P F p Q S hf k=>?_⟩;obtain⟨p0,h1,g1⟩:=bnd hf;obtain⟨ds,h2,g2⟩:=bnd g1;obtain⟨y,h3,g3⟩:=bnd g2;obtain⟨kk,h4,g4⟩:=bnd g3;cases M7 h4
 obtain⟨j,h5,g5⟩:=bnd g4;cases g5
 refine qa Z U H P F p0 _ S h1 λv v0 H1 e1 qm hw=>qb Z U H1 P F _ _ (S.grow e1) h3 λwv H2 e2 r2=>?_
 obtain⟨v',f',e',o,_⟩:=(S.grow (e1.trans e2)).get hm;rw[qm]at e';cases e'
 have AR:=a9F e2 hw;obtain⟨a,xs,rfl,hh,hl⟩:=b3g o h2 AR;have hj:j<ds.length:=by
  obtain⟨_,z,_,_⟩:=a2F h5;exact z
 obtain⟨xj,hx⟩:∃xj,xs[j]?=cz xj:=⟨_,ab (by lia)⟩;have rd:L2.atI xs kk=cz xj:=by unfold L2.atI;rw[hl,h5];exact hx
 have fin:=k xj v0 H2 (e1.trans e2) qm (a9G AR rfl hh hx);rcases hh with hh|hh
 ·exact .inl ⟨a,xs,kk,_,rfl,r2.den.int_inv,.inl (.inl hh),rd,fin⟩
 ·exact .inr ⟨a,xs,kk,_,rfl,r2.den.int_inv,.inl (.inl hh),rd,fin⟩
noncomputable def J6(i:Nat)(u:Ty)(fp:EvP)(fe:EvE):EvS:=λZ=>(fp Z).bind λp=>(x8 u (Z.getD i .none) p).bind λds=>(fe Z).bind λd=>if ds.length<1000000 then cz (.nx (Z.set i (a0W (Z.getD i .none) p (.list (ds++[d]))))) else xn
noncomputable def b6i(i:Nat)(u:Ty)(fp:EvP)(fj fe:EvE):EvS:=λZ=>(fe Z).bind λd=>(fp Z).bind λp=>(x8 u (Z.getD i .none) p).bind λds=>(fj Z).bind λy=>(asI y).bind λk=>(ixN ds.length k).bind λj=>cz (.nx (Z.set i (a0W (Z.getD i .none) p (.list (ds.set j d)))))
noncomputable def TyAt(u:Ty)(fp:EvP)(t:Ty):Prop:=∀Z p d td,fp Z=cz p->dAt u d p=cz td->td.1=.l t
def a0X:TyAt (.l t) p6 t:=λZ p d td h1 h2=>by
 cases h1
 have mS:cz (Ty.l t,d)=cz td:=h2;cases mS
 rfl
def TyAt.ix(h:∀Z p d td,fp Z=cz p->dAt u d p=cz td->td.1=.l (.l t)):TyAt u (pIx i u' fp fb) t:=λZ p d td h1 h2=>by
 obtain⟨p0,k1,g1⟩:=bnd h1;obtain⟨ds,k2,g2⟩:=bnd g1;obtain⟨y,k3,g3⟩:=bnd g2;obtain⟨kk,k4,g4⟩:=bnd g3;obtain⟨j,k5,g5⟩:=bnd g4;cases g5
 have key:∀(p:List Nat) (u:Ty) (d:D) (td:Ty×D),dAt u d (p++[j])=cz td->∃pW,dAt u d p=cz pW/\(∀t,pW.1=.l t->td.1=t):=by
  intro p
  induction p with
  |nil=>
   intro u d td h;refine⟨(u,d),rfl,λt e=>?_⟩;have e':u=.l t:=e;subst e';cases d with
   |list es=>
    obtain⟨d1,z1,z2⟩:=bnd (show (es[j]?).bind (λd=>dAt t d [])=cz td from h);have yb:cz (t,d1)=cz td:=z2;cases yb
    rfl
   |_=>cases h
  |cons a p ih=>
   intro u d td h;cases u with
   |l u=>
    cases d with
    |list es=>
     obtain⟨d1,z1,z2⟩:=bnd (show (es[a]?).bind (λd=>dAt u d (p++[j]))=cz td from h);obtain⟨pW,y1,y2⟩:=ih u d1 td z2;refine⟨pW,?_,y2⟩;show (es[a]?).bind (λd=>dAt u d p)=cz pW;rw[z1];exact y1
    |_=>cases h
   |tp us=>
    cases d with
    |tuple es=>
     obtain⟨u1,z0,yc⟩:=bnd (show (us[a]?).bind (λu=>(es[a]?).bind λd=>dAt u d (p++[j]))=cz td from h);obtain⟨d1,z1,z2⟩:=bnd yc;obtain⟨pW,y1,y2⟩:=ih u1 d1 td z2;refine⟨pW,?_,y2⟩;show (us[a]?).bind (λu=>(es[a]?).bind λd=>dAt u d p)=cz pW;rw[z0];show (es[a]?).bind (λd=>dAt u1 d p)=cz pW;rw[z1];exact y1
    |_=>cases h
   |i=>cases h
   |f=>cases h
   |d kt u=>cases h
 obtain⟨pW,y1,y2⟩:=key p0 u d td h2;exact y2 _ (h Z p0 d pW k1 y1)
def c1l:TyAt (.l (.l t)) (pIx i u' p6 fb) t:=TyAt.ix a0X
def at_list{d:D}{p:List Nat}{ds:List D}(ht:∀td,dAt u d p=cz td->td.1=.l t)(hi:x8 u d p=cz ds):dAt u d p=cz (.l t,.list ds):=by
 obtain⟨⟨t',d'⟩,h1,h2⟩:=bnd hi;have e:t'=.l t:=ht _ h1;subst e;cases d' with
 |list es=>cases h2;exact h1
 |_=>cases h2
def O9(i:Nat)(hp:PPX X M pl i fp)(he:PMX X M e f t M1)(ht:TyAt u fp t)(hm:M[i]?=cz (.own u):=by rfl)(rM:M1[i]?=cz (.own u):=by rfl)
  (fJ:dY pl "append" X.env (cK pl X.env)=cK pl X.env:=by rfl)
  (iK:((cM cP (au [e] X.env)).all (λx=>!x.1)&&(eX cP (dD [] X.env)).all (λx=>x.1.isSome)
   && decide ([e].length+([]:List eO).length+(if ([]:List eO).isEmpty then 0 else 1)<30))=yn:=by rfl)
  (fI:(apos.endLine==cP.line)=yn:=by rfl) (hs:au [e] X.env=(yp,cK e X.env)::au [] X.env:=by rfl) (eJ:(cM cP (au [] X.env)).any (·.1)=yp:=by rfl)
  (oF:eR (.Call (.Attribute pl "append" apos) [e] [] cP) xn pos.line X.env=pure yp:=by rfl) :
  PSX X w ML M (.Expr (.Call (.Attribute pl "append" apos) [e] [] cP) pos) (J6 i u fp f) M1:=by
 obtain⟨tp,pp,qp⟩:=hp;obtain⟨te,pe,qe⟩:=he;refine .mk ⟨_,R8 (a4F eS kB kA Y7 pp (l0 pe p9 hs) fJ iK fI hs eJ) oF,λD Z U H P F o S hg k=>?_⟩;obtain⟨p,h1,g1⟩:=bnd hg;obtain⟨ds,h2,g2⟩:=bnd g1;obtain⟨d,h3,g3⟩:=bnd g2;by_cases hz:ds.length<1000000
 ·rw[aB hz]at g3;cases g3
  refine qp Z U H P F p _ S.toE h1 λv v0 H1 e1 qm hw=>?_
  have S1:=S.grow e1;obtain⟨v',f',e',o,_⟩:=S1.toE.get hm;rw[qm]at e';cases e'
  have sG:=at_list (λtd z=>ht Z p _ td h1 z) h2;obtain⟨b,xs,fs,pre,post,rfl,r2,_,_,_⟩:=o.path p sG hw;refine⟨.inl ⟨rfl,xs,SqL.of r2⟩,qe [] [] [] Z U H1 P F d _ S1.pend h3 λv1 H2 F2 e2 S2=>?_⟩;obtain⟨b',kn,e',vc,hl,S3,_⟩:=S2.put rM qm sG (a9F e2 hw);cases e'
  refine⟨b,kn,v1,rfl,rfl,vc,?_,k U _ F2 S3⟩;rw[hl];exact jG hz (by rw[cX];decide)
 ·rw[aJ hz]at g3;cases g3
def b8X(i:Nat)(hp:PPX X M1 pl i fp)(hj:PX X M1 j fj cj)(he:PMX X M e f t M1)(ht:TyAt u fp t)(rM:M1[i]?=cz (.own u):=by rfl)
  (ha:∀v,lG (.Subscript pl j jg) X.env v=(do
   let ov <-oq [v] (cK pl X.env)
   let iv <-oq [v,ov] (cK j X.env)
   Cn jg
   oq [v,ov,iv] (Co ov iv v)
   release [v,ov,iv] []):=by intro _;rfl)
  (hs:yf [.Subscript pl j jg] e pos.line X.env=pure yp:=by rfl) (hw:yg [.Subscript pl j jg] e X.env=pure xn:=by rfl)
  (h1:(gR [.Subscript pl j jg] X.env).map (·.2)=[lG (.Subscript pl j jg) X.env]:=by rfl) :
  PSX X w ML M (.Assign [.Subscript pl j jg] e pos) (b6i i u fp fj f) M1:=by
 obtain⟨tp,pp,qp⟩:=hp;obtain⟨tj,pj,qj⟩:=hj.out;obtain⟨te,pe,qe⟩:=he;refine .mk ⟨_,b2E pe (b8x pp pj set_list ha) hs hw h1,λD Z U H P F o S hg k=>?_⟩;obtain⟨d,h3,g3⟩:=bnd hg;obtain⟨p,h1,g1⟩:=bnd g3;obtain⟨ds,h2,g2⟩:=bnd g1;obtain⟨y,h4,g4⟩:=bnd g2;obtain⟨kk,h5,g5⟩:=bnd g4;cases M7 h5
 obtain⟨jj,h6,g6⟩:=bnd g5;cases g6
 refine qe [] [] [] Z U H P F d _ S.pend h3 λv1 H1 F1 e1 S1=>qp Z U H1 P F1 p _ S1.e h1 λv v0 H2 e2 qm yG=>qj Z U H2 P F1 _ _ (S1.e.grow e2) h4 λvj H3 e3 r3=>?_
 have S2:=(S1.grow (e2.trans e3));have sG:=at_list (λtd z=>ht Z p _ td h1 z) h2;obtain⟨b,xs,rfl,r2,hl,_,S3⟩:=S2.put rM qm sG (a9F e3 yG);have jk:jj<ds.length:=(a2F h6).2.1;exact⟨b,xs,kk,jj,rfl,r3.den.int_inv,r2,by rw[hl];exact h6,k U _ F1 (S3 jj jk)⟩
def a8f(i:Nat)(hN:X.N.Nodup)(hc:X.calm=yn)
  (hi:PIX X M tg iter fi) (C:K5 scope X.env.kindOf ys js X.N=yn) (hg:∀cl Cl s H fp,PG (B5 X (tn++ys) scope cl Cl s H fp) tg g) (wa:TgR X.K g n pt) (uG:mm=.i\/mm=.f)
  (qU:mm=.i->∀Z ds,fi Z=cz ds->∀d∈ds,∀bs,pt d=cz bs->c9 bs=yn) (tE:tn.length=n)
  (ht:∀cl Cl s H fp,PTs (B5 X (tn++ys) scope cl Cl s H fp) ifs (spT X.K (E1 (.own mm) n M js) ft)) (he:∀cl Cl s H fp,PX (B5 X (tn++ys) scope cl Cl s H fp) (E1 (.own mm) n M js) elt fe (.new t))
  (nJ:X.N[i]?=cz x:=by rfl) (hx:autoParam (Loc X.env.scope x) ZX._auto_1) (hm:M[i]?=cz m:=by rfl)
  (oF:eR (.ListComp elt [⟨tg,iter,ifs,0⟩] scope cps) (cz (.Name x px)) pos.line X.env=pure yn:=by rfl) (hs:∀x,dM iter X.env x=pure x:=by intro _;rfl)
  (hf:autoParam (X.fn x=yn\/X.env.scope.names.lookup x=cz .local) ZW._auto_1) :
  PSX X w ML M (.Assign [.Name x px] (.ListComp elt [⟨tg,iter,ifs,0⟩] scope cps) pos) (j5 i (n9 fi js pt ft fe)) (M.set i (.own (.l t))):=by
 obtain⟨wi,pi,qi⟩:=hi;refine .mk ⟨_,a1W (te:=spE X.K (E1 (.own mm) n M js) fe (.new t)) hc hN nJ hx pi C hg ht he oF hs hf,λD Z U H P F o S sF k=>?_⟩;obtain⟨d,h1,g1⟩:=bnd sF;cases g1
 exact a1v qi wa uG qU tE S.toE h1 λv H' e ⟨fp,o,nd,fr⟩=>k _ _ _ (S.set hm e o nd fr)
end
def argsOk:List Ty->List D->Bool
 |[],[]=>yn
 |.i::us,d::ds=>imm d&&argsOk us ds
 |.f::us,_::ds=>argsOk us ds
 |_,_=>yp
noncomputable def fnD(us:List Ty)(n:Nat)(g:EvS):List D->Option D:=λds=>if argsOk us ds then (g (ds++aT n .none)).bind λo=>match o with
 |.rt d=>cz d
 |_=>xn
 else xn
theorem T5:∀{us:List Ty} {vs:List V} {ds:List D},argsOk us ds=yn->DenAll K H vs ds->∀n,StAll K H [] (us.map .own++aT n .dead) (ds++aT n .none) (vs.map cz++aT n xn) []
 |[],vs,[],_,hd,n=>by
  rw[hd.nil_inv]
  induction n with
  |zero=>exact L7
  |succ n ih=>exact i7 (K:=K) (H:=H) (F:=[]) (m:=.dead) (f:=[]) rfl ih
 |.i::us,vs,d::ds,h,hd,n=>by
  have h':imm d=yn/\argsOk us ds=yn:=by simpa[argsOk]using h
  obtain⟨v,r,rfl,h1,h2⟩:=hd.cons_inv;refine i7 (K:=K) (H:=H) (F:=[]) (m:=.own .i) (f:=[]) ⟨v,rfl,?_⟩ (T5 h'.2 h2 n);simp only[Own,K6];exact⟨trivial,h'.1,h1⟩
 |.f::us,vs,d::ds,h,hd,n=>by
  have h':argsOk us ds=yn:=by simpa[argsOk]using h
  obtain⟨v,r,rfl,h1,h2⟩:=hd.cons_inv;refine i7 (K:=K) (H:=H) (F:=[]) (m:=.own .f) (f:=[]) ⟨v,rfl,?_⟩ (T5 h' h2 n);simp only[Own,K6];exact⟨trivial,h1⟩
 |.l _::us,vs,d::ds,h,_,_=>by simp[argsOk]at h
 |.tp _::us,vs,d::ds,h,_,_=>by simp[argsOk]at h
 |.d _ _::us,vs,d::ds,h,_,_=>by simp[argsOk]at h
 |[],vs,d::ds,h,_,_=>by simp[argsOk]at h
 |.i::us,vs,[],h,_,_=>by simp[argsOk]at h
 |.f::us,vs,[],h,_,_=>by simp[argsOk]at h
 |.l _::us,vs,[],h,_,_=>by simp[argsOk]at h
 |.tp _::us,vs,[],h,_,_=>by simp[argsOk]at h
 |.d _ _::us,vs,[],h,_,_=>by simp[argsOk]at h
open PyProof.Rows in
def b6j{P:bB}{w:bZ}{K:ag}{mg:bE->Option ak}{base:cS}{x:bE}{st:iE}{f:av}{fd:dS}{N ps:List bE}{k n:Nat}{us:List Ty}{u:Ty}{g:EvS}{M':List Md}(F:Fun K x x st f fd)(S:FnScope N ps (g8 st))(oE:us.length=ps.length)(hn:N.length=ps.length+n)
  (hb:∀(gz:ak) (A:bS) (outer:List oQ) (s:ar) (H:Hp) (E:XK),Room k (A.deeper (jv x (g8 st) s.heap.objs.size f gz))->PSsX (a0M CX0 P w K mg base N x (g8 st) f gz A outer s H E).nox u [] (us.map .own++aT n .dead) (v7 st) g M') :
  FnOk P w K mg base CX0 (k+1) f fd ps (spD K ps.length (fnD us n g) u):=by
 refine F.ok S (λvs H Q E h=>?_) (λgz A outer s H vs Q E hr h=>?_)
 ·obtain⟨ds,d,hl,_⟩:=h;exact hl
 obtain⟨ds,d,hl,hd,hm,q⟩:=h;obtain⟨t,p,r⟩:=(hb gz A outer s H E hr).out;refine⟨t,p,?_⟩;unfold fnD at hm;by_cases ha:argsOk us ds=yn
 ·rw[aB ha]at hm;obtain⟨o,h1,h2⟩:=bnd hm;cases o with
  |rt d'=>
   have mS:cz d'=cz d:=h2;cases mS
   have e:L2.start N vs=vs.map cz++aT n xn:=by
    unfold L2.start;rw[show N.length-vs.length=n by lia]
   rw[e];refine r _ (ds++aT n iG) _ H H [] (.rt d) ⟨⟨[],T5 ha hd n,bD,λa ha=>(nomatch ha)⟩,λa ha=>(nomatch ha),by rw[K6];exact Same.refl H⟩ h1 ?_;exact λv H' fp o nd fr e=>q v H' fp e o nd fr
  |_=>cases h2
 ·rw[aJ ha]at hm;cases hm
end VS
namespace VS
open PySem PySem.Spec L2 PyProof.Rows
def E6(K:ag):List (bE×av):=L9.filterMap λx=>(B0 K x).map λp=>(x,p)
def a1w:List av->Bool
 |[]=>yn
 |a::r=>!r.contains a&&a1w r
def a3k(K:ag)(names:List bE):Bool:=a1w ((E6 K).map (·.2))&&(E6 K).all λt=>(K.lookup t.2).isNone&&names.contains t.1
theorem a3l:∀{l:List (bE×av)} {x y:bE} {p:av},a1w (l.map (·.2))=yn->(x,p)∈l->(y,p)∈l->x=y
 |[],_,_,_,_,h,_=>(nomatch h)
 | (z,q)::l,x,y,p,h,h1,h2=>by
  have h':((l.map (·.2)).contains q=yp)/\a1w (l.map (·.2))=yn:=by simpa[a1w]using h
  have AD:∀w,(w,q)∉l:=λw hw=>by
   have:(l.map (·.2)).contains q=yn:=by
    rw[uX];exact aI.mpr ⟨(w,q),hw,rfl⟩
   rw[h'.1]at this;cases this
  rcases aD.mp h1 with e1|e1
  ·rcases aD.mp h2 with e2|e2
   ·cases e1;cases e2;rfl
   ·cases e1;exact absurd e2 (AD y)
  ·rcases aD.mp h2 with e2|e2
   ·cases e2;exact absurd e1 (AD x)
   ·exact a3l h'.2 e1 e2
def a2b{K:ag}{x:bE}{p:av}(hx:x∈L9)(h:B0 K x=cz p):(x,p)∈E6 K:=
 dW.mpr ⟨x,hx,by rw[h];rfl⟩
def C3{K:ag}{x:bE}{p:av}(h:(x,p)∈E6 K):x∈L9/\B0 K x=cz p:=by
 obtain⟨y,hy,e⟩:=dW.mp h;cases q:B0 K y with
 |none=>rw[q]at e;cases e
 |some r=>
  rw[q]at e;have e':(y,r)=(x,p):=aH e;cases e'
  exact⟨hy,q⟩
def a8g{K:ag}(e:a5p K cd=cz p)(X:K.In h):∃c,cd=.ref c/\gD h c p:=by
 unfold a5p at e
 split at e
 ·rename_i c
  split at e
  ·rename_i n dd vs sl hc
   split at e
   ·rename_i hn
    split at e
    ·rename_i P' file tf flags tg AJ text tt BD EJ h7 h9 EK
     split at e
     ·rename_i iU
      cases e
      have en:n="code":=by simpa using hn
      subst en;refine⟨c,rfl,_,vs,file,tf,flags,tg,AJ,text,tt,X _ _ hc,rfl,rfl,BD,?_,?_,?_,?_,?_,bne_iff_ne.mp iU⟩
      ·simp[fg,BD]
      ·simp[fg,EJ]
      ·simp[fg,h7]
      ·simp[fg,h9]
      ·simp[fg,EK]
     ·cases e
    ·cases e
   ·cases e
  ·cases e
 ·cases e
def a4R{K:ag}{h:cS}(e:B0 K x=cz p)(X:K.In h)(G:h.Ns bV mg) :
  ∃f oc od fd sl c,mg x=cz (.ref f)/\K.lookup f=cz ⟨oc,od,.func fd,sl⟩/\fd.code=.ref c/\gD h c p:=by
 unfold B0 at e
 split at e
 ·rename_i f hf
  split at e
  ·rename_i oc od fd sl hl
   obtain⟨c,hc,hd⟩:=a8g e X;exact⟨f,oc,od,fd,sl,c,kz X G hf,hl,hc,hd⟩
  ·cases e
 ·cases e
def Tab0(K:ag)(h:cS):Prop:=∀x∈L9,∀p,B0 K x=cz p->isCodeTable h p/\h.get? p=cz {cls:=.none,data:=.fields #[]}
def b6k{q:bB}{loose:List bE}{yr:ExcName->Option ak}{mg mb:bE->Option ak}{h:cS}{K:ag}(T:Top q loose yr mg mb h)(X:K.In h)(ok:a3k K ((recsOf q).map (·.name))=yn):Tab0 K h:=λx hx p e=>by
 have hm:=a2b hx e;have hn:((K.lookup p).isNone&&((recsOf q).map (·.name)).contains x)=yn:=by
  unfold a3k at ok;rw[aC]at ok;exact eK.mp ok.2 _ hm
 rw[aC,uX]at hn;obtain⟨d,hd,rfl⟩:=aI.mp hn.2;obtain⟨f,oc,od,fd,sl,c,h1,h2,h3,h4⟩:=a4R e X T.g;obtain⟨a,o,BE,c',P',z1,z2,z3,z4,z5,z6⟩:=T.tab d hd;rw[h1]at z1;cases z1
 rw[X _ _ h2]at z2;cases z2
 have Ca:Data.func fd=Data.func BE:=z3;cases Ca
 rw[h3]at z4;cases z4
 obtain⟨ob,vs,file,tf,flags,tg,AJ,text,tt,y1,y2,y3,y4,_⟩:=h4;obtain⟨⟨FE,Fq,w1,w2,w3,w4⟩,w5⟩:=id z6;rw[y1]at w1;cases w1
 rw[y3]at w3;cases w3
 rw[y4]at w4;cases w4
 exact⟨z6.isCodeTable,w5⟩
def O0(K:ag)(H:Hp):Hp:=λb=>match (E6 K).find? λt=>t.2==b with
 |some t=>cz (.tbl #[.str (V9 t.1) 0])
 |none=>H b
def b1g{K:ag}{s₁:ar}{vs:List ak} 
  (KX:K.In s₁.heap) (rL:s₁.heap.Ns bV mg) (hb:s₁.heap.Ns kL mb) (xH:∀x:bE,x≠"__name__"->mb x=gY x) (zh:s₁.heap.NoLimit) (hg:s₁.gens=#[])
  (Em:∃bm ob,mg "__builtins__"=cz (.ref bm)/\bm≠kL/\s₁.heap.get? bm=cz ob/\ob.cls=.type "module"/\ob.dict=cz kL/\ob.data=.plain)
  (rJ:Tab0 K s₁.heap) (pG:a3k K names=yn)
  (ha:s₁.heap.get? a=cz {cls:=.type "list",data:=.seq vs.toArray}) (hi:IntsAre vs ns) (hl:ns.length<=aZ) (hr:Room k ou)
  (F:∀base:cS,K.In base->base.Ns bV mg->FnOk P w K mg base CX k fa fd [x] sp) (nQ:∀(s:ar) (u:ak),ox s fd ⟨[u],[]⟩ [(x,u)])
  (qu:∀H:Hp,SqX K H a (ns.map V.int)->sp [.ref a] H (λv _=>v=.bl yn) λ_ _ _=>False)
  (zS:∀H e s',CX [] H s₁ (λ_ _ _=>False) e s'->False) :
  gX (aV P w) ou (.call (.ref fa) ⟨[.ref a],[]⟩) (λr s'=>r=.ok (.ret (.bool yn))/\OldK s₁.heap s'.heap/\s'.os=s₁.os/\pD s'.gens) s₁:=by
 have rv:=vals_ints hi;have yw:=hi.length;have Cz:a1w ((E6 K).map (·.2))=yn:=by unfold a3k at pG;rw[aC]at pG;exact pG.1
 have Cy:∀t∈E6 K,K.lookup t.2=xn:=λt ht=>by
  unfold a3k at pG;rw[aC]at pG;have:=eK.mp pG.2 t ht;rw[aC]at this;exact Option.isNone_iff_eq_none.mp this.1
 have core:∀H0:Hp,SqX K H0 a (ns.map V.int)->HOk P w H0 s₁.heap->(∀b u,H0 b=cz u->b=a/\∃o xs,u=.frz o (.lst xs))->(H0 a≠xn->K.lookup a=xn)->
   gX (aV P w) ou (.call (.ref fa) ⟨[.ref a],[]⟩) (λr s'=>r=.ok (.ret (.bool yn))/\OldK s₁.heap s'.heap/\s'.os=s₁.os/\pD s'.gens) s₁:=by
  intro H0 hS hok hA hK;have kU:∀b u,O0 K H0 b=cz u->(∃x,(x,b)∈E6 K/\u=.tbl #[.str (V9 x) 0])\/((∀x,(x,b)∉E6 K)/\H0 b=cz u):=λb u e=>by
   unfold O0 at e
   split at e
   ·rename_i t ht
    cases e
    have h1:=List.mem_of_find?_eq_some ht;have h2:t.2=b:=beq_iff_eq.mp (List.find?_some (p:=λt:bE×av=>t.2==b) ht);refine .inl ⟨t.1,?_,rfl⟩;rw[<-h2];exact h1
   ·rename_i ht
    refine .inr ⟨λx hx=>?_,e⟩;have:=nz.mp ht _ hx;simp at this
  have tabAt:∀x p,(x,p)∈E6 K->O0 K H0 p=cz (.tbl #[.str (V9 x) 0]):=λx p hm=>by
   cases e:O0 K H0 p with
   |none=>
    unfold O0 at e
    split at e
    ·cases e
    ·rename_i ht
     have:=nz.mp ht _ hm;simp at this
   |some u=>
    rcases kU p u e with⟨y,hy,rfl⟩|⟨hn,_⟩
    ·rw[a3l Cz hm hy]
    ·exact absurd hm (hn x)
  have nA:∀x,(x,a)∉E6 K:=λx hx=>by
   have:=(rJ x (C3 hx).1 a (C3 hx).2).2;rw[ha]at this;cases this
  have BQ:O0 K H0 a=H0 a:=by
   cases e:O0 K H0 a with
   |none=>
    unfold O0 at e
    split at e
    ·cases e
    ·exact e.symm
   |some u=>
    rcases kU a u e with⟨y,hy,_⟩|⟨_,h⟩
    ·exact absurd hy (nA y)
    ·exact h.symm
  have Ex:SqX K (O0 K H0) a (ns.map V.int):=by
   rcases hS with (h|⟨o,h⟩)|h
   ·exact .inl (.inl (BQ.trans h))
   ·exact .inl (.inr ⟨o,BQ.trans h⟩)
   ·exact .inr h
  have qx:HOk P w (O0 K H0) s₁.heap:=λb u e=>by
   rcases kU b u e with⟨x,hx,rfl⟩|⟨hn,h⟩
   ·obtain⟨h1,h2⟩:=C3 hx;exact⟨#[],(rJ x h1 b h2).2,trivial,λpos cv z=>by cases z⟩
   ·obtain⟨rfl,o,xs,rfl⟩:=hA b u h;obtain⟨h1,h2⟩:=hok _ _ h;obtain⟨z,its,n,r,e'⟩:=h2;exact⟨h1,z,its,n,r,e'⟩
  have nk:∀{b:av} {o:fY},s₁.heap.get? b=cz o->O0 K H0 b=xn->(a5o s₁.heap (O0 K H0)).get? b=cz o:=λe n=>b2C e n
  have AA:∀{b:av} {o:fY},s₁.heap.get? b=cz o->(∀ps,o.data≠.fields ps)->(∀its n,o.data≠.seq its n)->O0 K H0 b=xn:=λ{b o} e d1 d2=>by
   cases q:O0 K H0 b with
   |none=>rfl
   |some u=>
    rcases kU b u q with⟨x,hx,rfl⟩|⟨hn,h⟩
    ·have:=(rJ x (C3 hx).1 b (C3 hx).2).2;rw[e]at this;cases this
     exact absurd rfl (d1 _)
    ·obtain⟨rfl,_⟩:=hA b u h;rw[ha]at e;cases e
     exact absurd rfl (d2 _ _)
  have xo:∀{b:av} {m:bE->Option ak},s₁.heap.Ns b m->(a5o s₁.heap (O0 K H0)).Ns b m:=λ{b m} ⟨o,es,ep,e,d,r⟩=>⟨o,es,ep,nk e (AA e (λps z=>by rw[d]at z;cases z) λits n z=>by rw[d]at z;cases z),d,r⟩
  have By:K.In (a5o s₁.heap (O0 K H0)):=λb o e=>nk (KX b o e) (by
   cases q:O0 K H0 b with
   |none=>rfl
   |some u=>
    rcases kU b u q with⟨x,hx,rfl⟩|⟨hn,h⟩
    ·rw[Cy _ hx]at e;cases e
    ·obtain⟨rfl,_⟩:=hA b u h;rw[hK (by rw[h];simp)]at e;cases e)
  have hM:Mod K mg (a5o s₁.heap (O0 K H0)):=⟨By,xo rL,⟨mb,xo hb,xH⟩,let⟨mc,h1,h2⟩:=zh;⟨mc,xo h1,h2⟩,
   let⟨bm,ob,b1,b2,b3,b4,b5,b6⟩:=Em;⟨bm,ob,b1,b2,nk b3 (AA b3 (λps z=>by rw[b6]at z;cases z) λits n z=>by rw[b6]at z;cases z),b4,b5,b6⟩⟩
  have e0:Env0 P w K mg (a5o s₁.heap (O0 K H0)) ou [] s₁ (O0 K H0):=⟨rfl,hM,λb o e=>b5B e,uh (b0K _ _),trivial,λb hb=>absurd (show b∈([]:List av) from hb) (by simp),qx,.of_eq hg,
   λx hx p e=>⟨_,0,tabAt x p (a2b hx e),rfl⟩⟩
  refine iX ((F _ By (xo rL)).run ou [] s₁ (O0 K H0) ⟨[.ref a],[]⟩ [.ref a] [.ref a] _ _ hr e0 (nQ s₁ (.ref a)) (.cons rfl .nil) (qu _ Ex)) λr s' h=>?_
  cases r with
  |error e=>exact (zS _ e s' h).elim
  |ok fl=>
   cases fl with
   |next=>exact dC h
   |brk=>exact dC h
   |cont=>exact dC h
   |ret u=>
    obtain⟨v,H',os,bare,un,rK,r',q⟩:=h;have q':v=.bl yn:=q;subst q';obtain rfl:u=mE yn:=r';refine⟨rfl,⟨λb o e=>?_,λb o e=>un.there b o e (by simp)⟩,os,bare⟩;cases q:O0 K H0 b with
    |none=>exact .inl (un.keep b o e q (by intro z;exact absurd (show b∈([]:List av) from z) (by simp)) (by simp))
    |some u=>
     rcases kU b u q with⟨x,hx,rfl⟩|⟨hn,h⟩
     ·obtain⟨t1,t2⟩:=rJ x (C3 hx).1 b (C3 hx).2;rw[e]at t2;cases t2
      obtain⟨more,e2⟩:=un.tbls b _ q;obtain⟨ps,e3,_⟩:=(show a6o H' s'.heap b _ from rK b _ e2);exact .inr (.inl ⟨t1,rfl,#[],ps,rfl,by simpa using e3⟩)
     ·obtain⟨rfl,ob,xs,rfl⟩:=hA b u h;have z2:=un.frzs b ob _ q;obtain⟨e1,_⟩:=qx b _ q;obtain⟨e2,_⟩:=rK b _ z2;rw[e]at e1;cases e1;exact .inl e2
 cases hk:K.lookup a with
 |some o=>
  have e:=KX a o hk;rw[ha]at e;cases e
  refine core (λ_=>xn) (.inr ⟨vs,_,hk,by rw[yw];exact hl,rv⟩) (λb u z=>by have z':(xn:Option HO)=cz u:=z;cases z') (λb u z=>by have z':(xn:Option HO)=cz u:=z;cases z') λz=>absurd rfl z
 |none=>
  refine core (λb=>if b=a then cz (.frz {cls:=.type "list",data:=.seq vs.toArray} (.lst (ns.map V.int))) else xn) (.inl (.inr ⟨{cls:=.type "list",data:=.seq vs.toArray},aB rfl⟩)) (λb u z=>?_) (λb u z=>?_) λ_=>hk
  ·by_cases hb:b=a
   ·have z':=(aB hb).symm.trans z;cases z'
    subst hb;exact⟨ha,by rw[ai];exact hl,vs,_,rv,ha⟩
   ·have z':=(aJ hb).symm.trans z;cases z'
  ·by_cases hb:b=a
   ·have z':=(aB hb).symm.trans z;cases z'
    exact⟨hb,_,_,rfl⟩
   ·have z':=(aJ hb).symm.trans z;cases z'
def b3h{l:Gs}{XP:(bE->Option ak)->cS->Prop}{YP:bZ->cS->Prop}{d:DefRec}{K:Params->ag}{CX:bZ->CXT}{sp:bZ->Sp} 
  (hn:l.most=cz n) (Dt:n<=aZ) (wo:d.params.defaults=[]) (hr:Room k ou)
  (hY:∀(w:bZ) (h:cS),YP w h->(K w.params).In h) (hT:∀w:bZ,a3k (K w.params) ((recsOf q).map (·.name))=yn)
  (F:∀(w:bZ) (mg:bE->Option ak) (fa:av) (h:cS),(K w.params).In h->h.Ns bV mg->mg d.name=cz (.ref fa)->
   ∃fd:dS,(∀(s:ar) (u:ak),ox s fd ⟨[u],[]⟩ [(x,u)])/\
    ∀base:cS,(K w.params).In base->base.Ns bV mg->FnOk l.prog w (K w.params) mg base (CX w) k fa fd [x] (sp w))
  (qu:∀(w:bZ) (H:Hp) (a:av) (ns:List Int),ns.length<=n->SqX (K w.params) H a (ns.map V.int)->sp w [.ref a] H (λv _=>v=.bl yn) λ_ _ _=>False)
  (zS:∀(w:bZ) (H:Hp) (s:ar) (e:ak) (s':ar),CX w [] H s (λ_ _ _=>False) e s'->False) :
  PySem.W.WalkO q loose XP YP l.row.toRowW d [] (λf vs=>Ah f vs):=by
 refine Att.attach_call hn wo λw s₀ s₁ mg mb fa o pm cd doc a vs ns G Y ho hd iC vQ tL hints hlen hg=>?_
 have KX:=hY w _ Y;obtain⟨fd,hb,hF⟩:=F w mg fa _ KX G.T.g vQ;exact b1g KX G.T.g G.T.b G.T.builtins G.T.nolimit hg G.T.bmain (b6k G.T KX (hT w)) (hT w) tL hints (cF hlen Dt) hr hF hb (λH hS=>qu w H a ns hlen hS) λH e s'=>zS w H s₁ e s'
def b1h{l:Gs}{XP:(bE->Option ak)->cS->Prop}{YP:bZ->cS->Prop}{d:DefRec}{K:Params->ag}{m:List bj->Option bj}(hn:l.most=cz 63)(wo:d.params.defaults=[])(hr:Room k ou)
  (hY:∀(w:bZ) (h:cS),YP w h->(K w.params).In h) (hT:∀w:bZ,a3k (K w.params) ((recsOf q).map (·.name))=yn)
  (F:∀(w:bZ) (mg:bE->Option ak) (fa:av) (h:cS),(K w.params).In h->h.Ns bV mg->mg d.name=cz (.ref fa)->
   ∃fd:dS,(∀(s:ar) (u:ak),ox s fd ⟨[u],[]⟩ [(x,u)])/\
    ∀base:cS,(K w.params).In base->base.Ns bV mg->FnOk l.prog w (K w.params) mg base CX0 k fa fd [x] (spD (K w.params) 1 m .i))
  (hm:∀ns:List Int,ns.length<=63->m [.list (ns.map .int)]=cz (.bool yn)) :
  PySem.W.WalkO q loose XP YP l.row.toRowW d [] (λf vs=>Ah f vs):=
 b3h (n:=63) (k:=k) (x:=x) (CX:=λ_=>CX0) (sp:=λw=>spD (K w.params) 1 m .i) hn (by decide) wo hr hY hT F
  (λw H a ns hl hS=>⟨_,_,rfl,denAll_cons (den_list hS (DenAll.ints ns)) denAll_nil,hm ns hl,λv H' fp _ o _ _=>(a2a o).2.2.bool_inv⟩) λ_ _ _ _ _ z=>z
end VS
namespace VS
open PySem PySem.Spec L2
def K2:∀(Z ds:List D),c6 Z=cz ds->ds.length=0:=λ_ _ h=>by cases h;rfl
def m7(hr:∀(Z ds:List D),r Z=cz ds->ds.length=n):∀(Z ds:List D),a7 f r Z=cz ds->ds.length=n+1:=λ_ _ h=>b1c hr h
def b1i:∀(Z ds:List D),iI fi Z=cz ds->∀d∈ds,mI d:=λZ ds h d hd=>by
 have:=a4Q rfl Z ds h d hd [d] rfl;show imm d=yn;simpa only [c9,fQ]using this
def b8Y:∀(Z ds:List D),iR fa Z=cz ds->∀d∈ds,mI d:=λZ ds h d hd=>by
 have:=a9C rfl Z ds h d hd [d] rfl;show imm d=yn;simpa only [c9,fQ]using this
def b1j(h:cS)(hb:dr<h.objs.size):ObjOk P w H (h.push {cls:=.type "dict",data:=.dict #[]}) h.objs.size (g9 h.objs.size []):=
 ⟨⟨fS.mpr (cR (bP hb)),cG _,bD,_,#[],0,bh _ rfl,⟨rfl,rfl,rfl⟩,rfl,.nil,λ_=>rfl⟩,⟨_,bh _ rfl⟩,λx1 x2 ⟨a1,a2,a3,o',o_,rW,b1,b2⟩ hk=>⟨a1,a2,a3,o',o_,rW,hk _ b1,b2⟩⟩
end VS
namespace VS
open PySem L2
section
variable {a b c:EvE}{Z Z':List D}{d x y:D}
def l1(g:D->Option D):Option D->Option D
 |some x=>g x
 |none=>xn
def l2(g:D->D->Option D):Option D->Option D->Option D
 |some x,cz y=>g x y
 |_,_=>xn
noncomputable def lc(m:List D->Option D):Option (List D)->Option D
 |some xs=>m xs
 |none=>xn
def b3i:Option D->Option (List D)->Option (List D)
 |some x,cz xs=>cz (x::xs)
 |_,_=>xn
def lB:Option D->Option Bool
 |some d=>asB d
 |none=>xn
def lT:Option D->Option Bool
 |some d=>tr d
 |none=>xn
def c1m:Option Bool->Option Bool
 |some b=>cz !b
 |none=>xn
def b8Z:Option Bool->EvT->List D->Option Bool
 |some yn,b,Z=>b Z
 |some yp,_,_=>cz yp
 |none,_,_=>xn
def orT:Option Bool->EvT->List D->Option Bool
 |some yn,_,_=>cz yn
 |some yp,b,Z=>b Z
 |none,_,_=>xn
def b9a:Option D->EvE->List D->Option D
 |some (.bool yn),b,Z=>b Z
 |some (.bool yp),_,_=>cz (.bool yp)
 |_,_,_=>xn
def orE:Option D->EvE->List D->Option D
 |some (.bool yn),_,_=>cz (.bool yn)
 |some (.bool yp),b,Z=>b Z
 |_,_,_=>xn
def c1n:Option D->Option D
 |some (.bool b)=>cz (.bool !b)
 |_=>xn
def b9b:Option Bool->EvE->EvE->List D->Option D
 |some yn,a,_,Z=>a Z
 |some yp,_,b,Z=>b Z
 |none,_,_,_=>xn
def b9c:Option Bool->EvS->EvS->List D->Option Out
 |some yn,a,_,Z=>a Z
 |some yp,_,b,Z=>b Z
 |none,_,_,_=>xn
def thn:Option Out->EvS->Option Out
 |some (.nx Z),b=>b Z
 |some (.rt d),_=>cz (.rt d)
 |some (.bk Z),_=>cz (.bk Z)
 |some (.ct Z),_=>cz (.ct Z)
 |none,_=>xn
def b6l(i:Nat):Option D->List D->Option Out
 |some d,Z=>cz (.nx (Z.set i d))
 |none,_=>xn
def retS:Option D->Option Out
 |some d=>cz (.rt d)
 |none=>xn
def exS:Option D->List D->Option Out
 |some _,Z=>cz (.nx Z)
 |none,_=>xn
def b3j(i j:Nat):Option D->List D->Option Out
 |some (.tuple [x,y]),Z=>cz (.nx ((Z.set i x).set j y))
 |_,_=>xn
noncomputable def c1o(set:List D->D->Option (List D))(g:EvS):Option (List D)->List D->Option Out
 |some ds,Z=>V8 set g ds Z
 |none,_=>xn
def a1x:Option Out->Option D
 |some (.rt d)=>cz d
 |_=>xn
def listE:Option (List D)->Option D
 |some ds=>cz (.list ds)
 |none=>xn
def c1p:Option (List D)->Option D
 |some ds=>cz (.tuple ds)
 |none=>xn
def c2Q:l1 g (cz x)=g x:=rfl
def b9d:l2 g (cz x) (cz y)=g x y:=rfl
def c2R:lc m (cz xs)=m xs:=rfl
def b6m:b3i (cz x) (cz xs)=cz (x::xs):=rfl
def c2S:lB (cz (.bool k))=cz k:=rfl
def c2T:lT (cz d)=tr d:=rfl
def b9e:c1m (cz k)=cz !k:=rfl
def b9f:b8Z (cz yn) t Z=t Z:=rfl
def b9g:b8Z (cz yp) t Z=cz yp:=rfl
def c1q:orT (cz yn) t Z=cz yn:=rfl
def c1r:orT (cz yp) t Z=t Z:=rfl
def b9h:b9a (cz (.bool yn)) b Z=b Z:=rfl
def b9i:b9a (cz (.bool yp)) b Z=cz (.bool yp):=rfl
def c1s:orE (cz (.bool yn)) b Z=cz (.bool yn):=rfl
def c1t:orE (cz (.bool yp)) b Z=b Z:=rfl
def b9j:c1n (cz (.bool k))=cz (.bool !k):=rfl
def b9k:b9b (cz yn) a b Z=a Z:=rfl
def b9l:b9b (cz yp) a b Z=b Z:=rfl
def b9m:b9c (cz yn) s t Z=s Z:=rfl
def b9n:b9c (cz yp) s t Z=t Z:=rfl
def P0:thn (cz (.nx Z)) s=s Z:=rfl
def b9o:thn (cz (.rt d)) s=cz (.rt d):=rfl
def b9p:thn (cz (.bk Z)) s=cz (.bk Z):=rfl
def b9q:thn (cz (.ct Z)) s=cz (.ct Z):=rfl
def b3k:b6l i (cz d) Z=cz (.nx (Z.set i d)):=rfl
def b9r:retS (cz d)=cz (.rt d):=rfl
def c1u:exS (cz d) Z=cz (.nx Z):=rfl
def b6n:b3j i j (cz (.tuple [x,y])) Z=cz (.nx ((Z.set i x).set j y)):=rfl
def b9s{set:List D->D->Option (List D)}:c1o set g (cz ds) Z=V8 set g ds Z:=rfl
def b9t:a1x (cz (.rt d))=cz d:=rfl
def a9H:listE (cz ds)=cz (.list ds):=rfl
def b9u:c1p (cz ds)=cz (.tuple ds):=rfl
def v_var:a6 i Z=cz (Z.getD i .none):=rfl
def v_c:eC d Z=cz d:=rfl
def v_1:e1 g a Z=l1 g (a Z):=by unfold e1;cases a Z<;>rfl
def v_2:e2 g a b Z=l2 g (a Z) (b Z):=by unfold e2;cases a Z<;>cases b Z<;>rfl
def c2U:eCl m f Z=lc m (f Z):=by unfold eCl;cases f Z<;>rfl
def b9v:a7 a r Z=b3i (a Z) (r Z):=by unfold a7;cases a Z<;>cases r Z<;>rfl
def b7X:c6 Z=cz []:=rfl
def c2V:tB a Z=lB (a Z):=by unfold tB;cases a Z<;>rfl
def c2W:tV a Z=lT (a Z):=by unfold tV;cases a Z<;>rfl
def c1v:tNo t Z=c1m (t Z):=by unfold tNo;cases t Z<;>rfl
def c1w:tAn s t Z=b8Z (s Z) t Z:=by
 unfold tAn;cases s Z with
 |none=>rfl
 |some k=>cases k<;>rfl
def c1x:P9 s t Z=orT (s Z) t Z:=by
 unfold P9;cases s Z with
 |none=>rfl
 |some k=>cases k<;>rfl
def v_and:b6b a b Z=b9a (a Z) b Z:=by
 unfold b6b;cases h:a Z with
 |none=>rfl
 |some d=>cases d with
  |bool k=>cases k<;>rfl
  |_=>rfl
def v_or:eOr a b Z=orE (a Z) b Z:=by
 unfold eOr;cases h:a Z with
 |none=>rfl
 |some d=>cases d with
  |bool k=>cases k<;>rfl
  |_=>rfl
def v_not:b6c a Z=c1n (a Z):=by
 unfold b6c;cases h:a Z with
 |none=>rfl
 |some d=>cases d<;>rfl
def c2X:eIf t a b Z=b9b (t Z) a b Z:=by
 unfold eIf;cases t Z with
 |none=>rfl
 |some k=>cases k<;>rfl
def b7Y:x5 f Z=listE (f Z):=by unfold x5;cases f Z<;>rfl
def c1y:K1 f Z=c1p (f Z):=by unfold K1;cases f Z<;>rfl
def Q3:f7 s t Z=thn (s Z) t:=by
 unfold f7;cases s Z with
 |none=>rfl
 |some o=>cases o<;>rfl
def b3l:j5 i a Z=b6l i (a Z) Z:=by unfold j5;cases a Z<;>rfl
def a9I:p7 a Z=retS (a Z):=by unfold p7;cases a Z<;>rfl
def c2Y:sEx a Z=exS (a Z) Z:=by unfold sEx;cases a Z<;>rfl
def b9w:z9 Z=cz (.nx Z):=rfl
def c1z:sIf t s s' Z=b9c (t Z) s s' Z:=by
 unfold sIf;cases t Z with
 |none=>rfl
 |some k=>cases k<;>rfl
def b3m{set:List D->D->Option (List D)}:A7 fi set g Z=c1o set g (fi Z) Z:=by unfold A7;cases fi Z<;>rfl
def b9x:a6F i j a Z=b3j i j (a Z) Z:=by
 unfold a6F;cases h:a Z with
 |none=>rfl
 |some d=>
  match d with
  |.tuple [x,y]=>rfl
  |.tuple []=>rfl
  |.tuple [_]=>rfl
  |.tuple (_::_::_::_)=>rfl
  |.none=>rfl
  |.bool _=>rfl
  |.int _=>rfl
  |.str _=>rfl
  |.list _=>rfl
  |.dict _=>rfl
def A8(h:argsOk us ds=yn):fnD us n g ds=a1x (g (ds++aT n .none)):=by
 unfold fnD;rw[aB h];cases g (ds++aT n .none) with
 |none=>rfl
 |some o=>cases o<;>rfl
def v_add:J0 (.int i) (.int j)=cz (.int (i+j)):=rfl
def v_sub:a3b (.int i) (.int j)=cz (.int (i-j)):=rfl
def v_lt:dLt (.int i) (.int j)=cz (.bool (decide (i<j))):=rfl
def c2Z:dLe (.int i) (.int j)=cz (.bool (decide (i<=j))):=rfl
def c3a:dGt (.int i) (.int j)=cz (.bool (decide (j<i))):=rfl
def c3b:dGe (.int i) (.int j)=cz (.bool (decide (j<=i))):=rfl
def v_mod(h:0<j):K0 (.int i) (.int j)=cz (.int (i % j)):=by
 show (if b8R i j=yn then _ else _)=_;rw[aB (show b8R i j=yn from aW h)]
def v_div(h:0<j)(h':j<1073741824):b5X (.int i) (.int j)=cz (.int (i / j)):=by
 show (if b5W i j=yn then _ else _)=_;rw[aB (by unfold b5W;rw[aW h,aW h'];rfl)]
def a1y{i j:Int}(h:i.natAbs<2^64):a0Q (.int i) (.int j)=cz (.int (i*j)):=by
 show (if b0X i j=yn then _ else _)=_;rw[aB (by unfold b0X;rw[aW h];rfl)]
def a5G{i j:Int}(h:j.natAbs<2^64):a0Q (.int i) (.int j)=cz (.int (i*j)):=by
 show (if b0X i j=yn then _ else _)=_;rw[aB (by unfold b0X;rw[aW h,Bool.or_true])]
def v_pow(h:b0Y i j=yn):b5Y (.int i) (.int j)=cz (.int (i^j.toNat)):=by
 show (if b0Y i j=yn then _ else _)=_;rw[aB h]
def c1A:dEq (.int i) (.int j)=cz (.bool (decide (i=j))):=by
 show cz (cV (yp !=aF (.int i) (.int j)))=_;have:aF (.int i) (.int j)=decide (i=j):=by
  show (i==j)=decide (i=j);exact gr i j
 rw[this];simp
def c1B:dNe (.int i) (.int j)=cz (.bool (!decide (i=j))):=by
 show cz (cV (yn !=aF (.int i) (.int j)))=_;have:aF (.int i) (.int j)=decide (i=j):=by
  show (i==j)=decide (i=j);exact gr i j
 rw[this];simp
def b9y:B8 [.list ds]=cz (.int ds.length):=rfl
def b9z:B8 [.tuple ds]=cz (.int ds.length):=rfl
def c1C:dIx (.list ds) (.int k)=atI ds k:=rfl
def c1D:dIx (.tuple ds) (.int k)=atI ds k:=rfl
def c1E:a6z (.list ds) (.int k)=atI ds k:=rfl
def c1F:o8 x y=l1 a5C (dIx x y):=by unfold o8;cases dIx x y<;>rfl
def b3n(h:imm d=yn):a5C d=cz d:=by unfold a5C;rw[aB h]
def c1G:c2P k (.bool i) (.bool j)=cz (.bool (k !=(i==j))):=rfl
def T6:imm (.int i)=yn:=by simp only[imm]
def u9(ns:List Int):c9 (ns.map .int)=yn:=by
 induction ns with
 |nil=>simp only[cZ,c9]
 |cons n ns ih=>simp only[ax,c9,imm,ih,er]
def X1{α:Type}{xs:List α}(h0:0<=k)(h:k<(xs.length:Int)):atI xs k=cz (xs[k.toNat]'(by lia)):=by
 unfold L2.atI ixN;rw[aB h0,aB h];exact ab (by lia)
def b9A(i:Nat):D->Option D->List D->Option Out
 |.list ds,cz d,Z=>if ds.length<1000000 then cz (.nx (Z.set i (.list (ds++[d])))) else xn
 |_,_,_=>xn
def c1H:J6 i (.l t) p6 a Z=b9A i (Z.getD i .none) (a Z) Z:=by
 unfold J6 p6
 dsimp only[fq]
 cases h:Z.getD i .none with
 |list ds=>
  cases a Z with
  |none=>rfl
  |some d=>rfl
 |_=>cases a Z<;>rfl
def a1z{ds:List D}(h:ds.length<1000000):b9A i (.list ds) (cz d) Z=cz (.nx (Z.set i (.list (ds++[d])))):=by
 show (if ds.length<1000000 then cz (Out.nx (Z.set i (.list (ds++[d])))) else xn)=_;rw[aB h]
def b1k(h:a Z=cz (.int n))(h0:0<=n)(h1:n<2^62):iR a Z=cz (l7 0 n.toNat):=by
 unfold iR;rw[h];show (if -(2^62)<=n/\n<2^62 then cz (l7 0 n.toNat) else xn)=_;rw[aB ⟨by lia,h1⟩]
def a8h:(l7 lo n).length=n:=by unfold l7;simp
end
end VS
namespace VS
open PySem PySem.Spec L2
noncomputable def fnN(us:List Ty)(n:Nat)(g:EvS):List D->Option D:=λds=>if argsOk us ds then (g (ds++aT n .none)).bind λo=>match o with
 |.rt d=>cz d
 |.nx _=>cz .none
 |_=>xn
 else xn
section
variable {X:Cx}{M:List Md}{a:Expr}{fa:EvE}{us:List Ty}{u:Ty}{pos p2:fW}
def b3o(ha:PX X M a fa (.new (.tp us)))(hu:us[j]?=cz u:=by rfl):PX X M (.Subscript a (.Constant (.int (j:Nat)) c p2) pos) (e2 dIx fa (eC (.int (j:Nat)))) (.new u):=by
 obtain⟨ta,pa,qa⟩:=ha.out;refine .mk ⟨_,a6t a3d pa a7J (λ_ _=>rfl),λZ U H P F d Q S hf q=>?_⟩;obtain⟨x,y,h1,h2,h3⟩:=D7 hf;cases h2
 refine qa Z U H P F x _ S h1 λv H1 e1 ⟨fp,o,n,fr⟩=>?_
 simp only[Own]at o;obtain⟨p,xs,ds,rfl,hp,yW,rfl,ot⟩:=o;have qJ:L2.atI ds (j:Int)=cz d:=h3;unfold L2.atI at qJ;obtain⟨k,k1,k2⟩:=bnd qJ;have hk:k=j:=by
  unfold ixN at k1;rw[aB (by lia)]at k1;by_cases c:(j:Int)<ds.length
  ·rw[aB c]at k1;have:=aH k1;lia
  ·rw[aJ c]at k1;cases k1
 subst hk;obtain⟨v1,f,pre,post,z1,z2,z3,_⟩:=ot.zip hu k2;subst z3;have hlen:xs.length=ds.length:=by rw[ot.len.1,ot.len.2]
 refine .inr ⟨p,xs,(k:Int),v1,rfl,rfl,SqT.of hp,?_,q v1 H1 e1 ⟨f,z2.frame (D6 λa ha=>?_) u λ_ _=>rfl,?_,λa ha=>fr a ?_⟩⟩
 ·unfold L2.atI;rw[hlen,k1];exact z1
 ·rcases ao.mp ha with z|z
  ·exact aj _ (ah _ (aj _ z))
  ·exact ah _ z
 ·exact n.sublist ((kE f post).trans (rh pre _))
 ·exact ah _ (aj _ ha)
end
open PyProof.Rows in
def b3p{P:bB}{w:bZ}{K:ag}{mg:bE->Option ak}{base:cS}{x:bE}{st:iE}{f:av}{fd:dS}{N ps:List bE}{k n:Nat}{us:List Ty}{u:Ty}{g:EvS}{M':List Md}(F:Fun K x x st f fd)(S:FnScope N ps (g8 st))(oE:us.length=ps.length)(hn:N.length=ps.length+n)
  (hb:∀(gz:ak) (A:bS) (outer:List oQ) (s:ar) (H:Hp) (E:XK),Room k (A.deeper (jv x (g8 st) s.heap.objs.size f gz))->PSsX (a0M CX0 P w K mg base N x (g8 st) f gz A outer s H E).nox .i [] (us.map .own++aT n .dead) (v7 st) g M') (hu:u=.i:=by rfl) :
  FnOk P w K mg base CX0 (k+1) f fd ps (spD K ps.length (fnN us n g) u):=by
 subst hu;refine F.ok S (λvs H Q E h=>?_) (λgz A outer s H vs Q E hr h=>?_)
 ·obtain⟨ds,d,hl,_⟩:=h;exact hl
 obtain⟨ds,d,hl,hd,hm,q⟩:=h;obtain⟨t,p,r⟩:=(hb gz A outer s H E hr).out;refine⟨t,p,?_⟩;unfold fnN at hm;by_cases ha:argsOk us ds=yn
 ·rw[aB ha]at hm;obtain⟨o,h1,h2⟩:=bnd hm;have e:L2.start N vs=vs.map cz++aT n xn:=by
   unfold L2.start;rw[show N.length-vs.length=n by lia]
  have S0:StR K (us.map .own++aT n .dead) (ds++aT n iG) (vs.map cz++aT n xn) H H []:=⟨⟨[],T5 ha hd n,bD,λa ha=>(nomatch ha)⟩,λa ha=>(nomatch ha),by rw[K6];exact Same.refl H⟩;cases o with
  |rt d'=>
   have mS:cz d'=cz d:=h2;cases mS
   rw[e];exact r _ (ds++aT n iG) _ H H [] (.rt d) S0 h1 λv H' fp o nd fr e=>q v H' fp e o nd fr
  |nx Z=>
   have mS:cz iG=cz d:=h2;cases mS
   rw[e];refine r _ (ds++aT n iG) _ H H [] (.nx Z) S0 h1 λU' H' F' S'=>?_
   refine q .non H' [] (S'.prot.trans j9) ?_ bD λa ha=>(nomatch ha)
   simp only[Own];exact⟨trivial,by simp only[imm],den_none⟩
  |_=>cases h2
 ·rw[aJ ha]at hm;cases hm
def M9:∀{l:List α} {l':List β},fR R l l'->∀{j:Nat} {x:α},l[j]?=cz x->∃y,l'[j]?=cz y/\R x y:=by
 intro l l' h
 induction h with
 |nil=>intro j x e;simp at e
 |cons r _ ih=>
  intro j x e;cases j with
  |zero=>cases e;exact⟨_,rfl,r⟩
  |succ j=>exact ih (by simpa using e)
def a2c:∀{l:List α} {l':List β},fR R l l'->∀{j:Nat} {y:β},l'[j]?=cz y->∃x,l[j]?=cz x/\R x y:=by
 intro l l' h
 induction h with
 |nil=>intro j x e;simp at e
 |cons r _ ih=>
  intro j x e;cases j with
  |zero=>cases e;exact⟨_,rfl,r⟩
  |succ j=>exact ih (by simpa using e)
section
variable {X:Cx}{pins:List (av×fY)}{U:L2.St}{H:Hp}{s:ar}{A:bS}{E:ak->ar->Prop}{a:av}{es:List (D×V×V)}{o:fY}{ents:Array hJ}{ep:Nat}{kt:Bool}{k:D}{kv:V}{key:ak}
def a1A(I:Inv X pins U H s)(kk:keyOk kt k)(dk:Den X.K H kv k)(rk:RelV kv key):∃as,Reads s.heap key k as:=Den.reads I k (W2 _ kk.1) dk rk
def a1B(I:Inv X pins U H s)(hu:A.units+10<dQ)(kk:keyOk kt k)(dk:Den X.K H kv k)(rk:RelV kv key)(h:Q (hashD k) {s with toks:=s.toks+t9 k}):aX (aV X.prog X.w) A (pyHash key) Q E s:=by
 obtain⟨as,r⟩:=a1A I kk dk rk;exact a2Z k kk.1 (by have:=kk.2.1;lia) r h
def a1C(I:Inv X pins U H s)(hu:A.units+10<dQ)(ho:s.heap.get? a=cz o)(hd:o.data=.dict ents ep)(hp:fR V2 es ents.toList)(hn:(es.map (·.1)).Nodup)(hk:∀e∈es,keyOk kt e.1/\Den X.K H e.2.1 e.1)
  (kk:keyOk kt k) (dk:Den X.K H kv k) (rk:RelV kv key) (kc:(∀e∈es,e.1≠k)->Q xn s) (j_:∀j e,es[j]?=cz e->e.1=k->Q (cz j) s) :
  aX (aV X.prog X.w) A (dictFind a key (hashD k)) Q E s:=by
 cases kt with
 |false=>
  obtain⟨i,rfl⟩:=kk.2.2.2 rfl;cases dk.int_inv
  obtain⟨t,rfl⟩:=rk;have ent:∀(j:Nat) (x:hJ),ents.toList[j]?=cz x->∃e n u,es[j]?=cz e/\e.1=.int n/\x.key=.int n u/\x.hash=hashInt n:=λj x hx=>by
   obtain⟨e,he,h1,h2,_⟩:=a2c hp hx;obtain⟨k1,k2⟩:=hk e (bt he);obtain⟨n,en⟩:=k1.2.2.2 rfl;rw[en]at k2 h1;have e2:=k2.int_inv;rw[e2]at h2;obtain⟨u,sv⟩:=h2;exact⟨e,n,u,he,en,sv,by simpa[hashD]using h1⟩
  show aX (aV X.prog X.w) A (dictFind a (.int i t) ((gW X.prog X.w).hash i)) Q E s;refine wpAny_dictFind_of (knd:=gW X.prog X.w) (k:=i) (by simp[gW,jR]) ho hd (λx hx=>?_) ?_
  ·obtain⟨j,hj⟩:=c_.mp (je.mpr hx);obtain⟨e,n,u,_,_,h3,h4⟩:=ent j x hj;exact⟨n,by rw[h3];simp[gW,jR],h4⟩
  ·cases hf:ents.findIdx? λe=>(gW X.prog X.w).is i e.key with
   |none=>
    refine kc λe he gy=>?_
    obtain⟨j,hj⟩:=c_.mp he;obtain⟨x,hx,_⟩:=M9 hp hj;obtain⟨e',n,u,h1,h2,h3,_⟩:=ent j x hx;rw[hj]at h1;cases h1
    rw[gy]at h2;cases h2
    have:=Array.findIdx?_eq_none_iff.mp hf x (je.mp (bt hx));rw[h3]at this;simp[gW,jR]at this
   |some j=>
    obtain⟨jk,vt,_⟩:=Array.findIdx?_eq_some_iff_getElem.mp hf;have hx:ents.toList[j]?=cz ents[j]:=by simp[jk]
    obtain⟨e,n,u,h1,h2,h3,_⟩:=ent j _ hx;have vM:n=i:=by
     rw[h3]at vt;simpa[gW,jR]using vt
    subst vM;exact j_ j e h1 h2
 |true=>
  obtain⟨ds,rfl⟩:=kk.2.2.1 rfl;obtain⟨p,sk,rfl,_,_⟩:=dk.tup_inv;cases (show key=bM p from rk)
  obtain⟨as,Cr⟩:=a1A I kk (dk) (show RelV (.ref p) (.ref p) from rfl);have build:∀{es:List (D×V×V)} {l:List hJ},fR V2 es l->(∀e∈es,keyOk yn e.1/\Den X.K H e.2.1 e.1)->∃xs:List (D×av×ak),l=xs.map (λx=>(⟨hashD x.1,.ref x.2.1,x.2.2⟩:hJ))/\xs.map (·.1)=es.map (·.1)/\∀x∈xs,B6 x.1=yn/\x.1.depth<=7/\∃as,Reads s.heap (.ref x.2.1) x.1 as:=by
   intro es l hp
   induction hp with
   |nil=>exact λ_=>⟨[],rfl,rfl,λx hx=>(nomatch hx)⟩
   |@cons e x es l r _ ih=>
    intro hk;obtain⟨xs,i1,i2,i3⟩:=ih λe he=>hk e (aw _ he)
    obtain⟨k1,k2⟩:=hk e aL;obtain⟨as,rr⟩:=a1A I k1 k2 r.2.1;obtain⟨ds,ed⟩:=k1.2.2.1 rfl;have:∃q,x.key=.ref q:=by
     rw[ed]at rr;cases AN:x.key with
     |ref q=>exact⟨q,rfl⟩
     |_=>rw[AN]at rr;cases rr
    obtain⟨q,hq⟩:=this;refine⟨(e.1,q,x.val)::xs,?_,by rw[ax,ax,i2],λy hy=>?_⟩
    ·rw[ax,<-i1]
     congr 1;obtain⟨xh,xk,xv⟩:=x;simp only at hq;rw[show xh=hashD e.1 from r.1,hq]
    ·rcases aD.mp hy with z|z
     ·subst z;exact⟨k1.1,k1.2.1,as,by rw[hq]at rr;exact rr⟩
     ·exact i3 y z
  obtain⟨xs,x1,x2,x3⟩:=build hp hk;have idx:∀(j:Nat) (kk:D),(∃p,xs[j]?=cz (kk,p))↔∃e,es[j]?=cz e/\e.1=kk:=λj kk=>by
   have:(xs.map (·.1))[j]?=(es.map (·.1))[j]?:=by rw[x2]
   rw[aQ,aQ]at this
   constructor
   ·rintro⟨q,hq⟩;rw[hq]at this;cases he:es[j]? with
    |none=>rw[he]at this;cases this
    |some e=>rw[he]at this;exact⟨e,rfl,(aH this).symm⟩
   ·rintro⟨e,he,hk⟩;rw[he]at this;cases hx:xs[j]? with
    |none=>rw[hx]at this;cases this
    |some x=>
     rw[hx]at this;have e1:x.1=e.1:=aH this;exact⟨x.2,by rw[<-hk,<-e1]⟩
  refine @wpAny_dictFind_heap X.prog X.w D b0W (b2R X.prog X.w) A E s a p o ents ep xs (.tuple ds) Q (by show A.units+8<dQ;lia) ⟨kk.1,kk.2.1,as,Cr⟩ ho hd x1 x3 (by rw[x2];exact hn) (λh=>kc λe he gy=>?_) (λj q hj=>?_)
  ·obtain⟨j,hj⟩:=c_.mp he;obtain⟨q,hq⟩:=(idx j (.tuple ds)).mpr ⟨e,hj,gy⟩;exact h j q hq
  ·obtain⟨e,he,gy⟩:=(idx j (.tuple ds)).mp ⟨q,hj⟩;exact j_ j e he gy
end
def A9(es:List (D×V×V))(k:D):Bool:=es.any λe=>aF e.1 k
def a0Y(es:List (D×V×V))(k:D)(kv v:V):List (D×V×V):=if A9 es k then es.map λe=>if aF e.1 k then (e.1,e.2.1,v) else e else es++[(k,kv,v)]
section
variable {X:Cx}{pins:List (av×fY)}{U:L2.St}{H:Hp}{s:ar}{A:bS}{E:ak->ar->Prop}{a:av}{es:List (D×V×V)}{kt:Bool}{k:D}{kv v:V}{key val:ak}
def a8i(h:a5A (ks++[x])=yp):a5A ks=yp:=by
 cases ks with
 |nil=>rfl
 |cons e ks=>
  unfold a5A at h ⊢
  split at h
  ·cases h
  ·rename_i hn
   split
   ·rename_i heq
    cases heq
    exact absurd rfl (hn _)
   ·rfl
def a8j{x:D×V×V}(h:S7 (es++[x])=yp):S7 es=yp:=by
 rw[S7,aO]at h;exact a8i h
def a4S(I:Inv X pins U H s)(h:H a=cz (g9 a es)):(a==dr)=yp/\es.length<=aZ/\(es.map (·.1)).Nodup/\∃o ents ep,s.heap.get? a=cz o/\o.ExactDict/\o.data=.dict ents ep/\fR V2 es ents.toList/\(S7 es=yp->ep=es.length):=
 (show ObjOk X.prog X.w H s.heap a (g9 a es) from I.hok a _ h).1
def b1l(I:Inv X pins U H s)(h:H a=cz (g9 a es))(hL:S7 es=yp):(a==dr)=yp/\es.length<=aZ/\(es.map (·.1)).Nodup/\∃o ents,s.heap.get? a=cz o/\o.ExactDict/\o.data=.dict ents es.length/\fR V2 es ents.toList:=
 let⟨a1,a2,a3,o,ents,_,r1,r2,r3,r4,r5⟩:=a4S I h;⟨a1,a2,a3,o,ents,r1,r2,r5 hL▸r3,r4⟩
def y7(I:Inv X pins U H s)(h:H a=cz (g9 a es)):(a==dr)=yp/\es.length<=aZ/\(es.map (·.1)).Nodup/\∃o ents ep,s.heap.get? a=cz o/\o.ExactDict/\o.data=.dict ents ep/\fR V2 es ents.toList:=
 let⟨a1,a2,a3,o,ents,ep,r1,r2,r3,r4,_⟩:=a4S I h;⟨a1,a2,a3,o,ents,ep,r1,r2,r3,r4⟩
def a6G(I:Inv X pins U H s)(h:H a=cz (g9 a es)){o:fY}{ents:Array hJ}{ep:Nat}(h1:s.heap.get? a=cz o)(h3:o.data=.dict ents ep)(hL:S7 es=yp):ep=es.length:=by
 obtain⟨_,_,_,o',o_,g1,_,g3,_⟩:=b1l I h hL;rw[h1]at g1;cases g1
 rw[h3]at g3
 injection g3
def o9(I:Inv X pins U H s)(h:H a=cz (g9 a es)):s.TypeIs (.ref a) "dict":=by
 obtain⟨_,_,_,o,ents,ep,h1,h2,_⟩:=y7 I h;exact⟨o,h1,h2.1⟩
def a0Z(I:Inv X pins U H s)(h:H a=cz (g9 a es)):∀b,bM a=.ref b->∃ob,s.heap.get? b=cz ob/\ob.dict=xn:=λb q=>by
 cases q
 obtain⟨_,_,_,o,ents,ep,h1,h2,_⟩:=y7 I h;exact⟨o,h1,h2.2.1⟩
def a1D{P:bB}{w:bZ}{H':Hp}{h':cS}(hs:(a==dr)=yp)(hl:es.length<=aZ)(hn:(es.map (·.1)).Nodup){o:fY}{ents:Array hJ}{ep:Nat}(h1:h'.get? a=cz o)(h2:o.ExactDict)(h3:o.data=.dict ents ep)(he:S7 es=yp->ep=es.length)(h4:fR V2 es ents.toList):ObjOk P w H' h' a (g9 a es):=
 ⟨⟨hs,hl,hn,o,ents,ep,h1,h2,h3,h4,he⟩,⟨o,h1⟩,λx1 x2 ⟨a1,a2,a3,o',o_,rW,b1,b2⟩ hk=>⟨a1,a2,a3,o',o_,rW,hk _ b1,b2⟩⟩
structure KeysAt (X:Cx) (H:Hp) (kt:Bool) (es:List (D×V×V)) (k:D) (kv:V):Prop where
 keys:∀e∈es,keyOk kt e.1/\Den X.K H e.2.1 e.1
 key:keyOk kt k
 den:Den X.K H kv k
def KeysAt.eqv(K:KeysAt X H kt es k kv){e:D×V×V}(he:e∈es):aF e.1 k=yn↔e.1=k:=D5 e.1 k (K.keys e he).1.1 K.key.1
def get_dict(I:Inv X pins U H s)(hu:A.units+10<dQ)(h:H a=cz (g9 a es))(K:KeysAt X H kt es k kv)(rk:RelV kv key) 
  (kc:A9 es k=yp->∀s',Inv X pins U H s'->Q xn s') (j_:∀e∈es,e.1=k->∀x s',Inv X pins U H s'->RelV e.2.2 x->Q (cz x) s') :
  aX (aV X.prog X.w) A (EY a key) Q E s:=by
 obtain⟨_,_,hn,o,ents,ep,h1,h2,h3,h4⟩:=y7 I h;unfold EY
 try with_reducible refine cY ?_
 refine ae (a1B I hu K.key K.den rk (ae (a1C (s:={s with toks:=s.toks+t9 k}) (I.tok (s.toks+t9 k)) hu h1 h3 h4 hn K.keys K.key K.den rk ?_ ?_)))
 ·intro oY;refine aE (kc ?_ _ (I.tok _));unfold A9;rw[eA];exact λe he hq=>oY e he ((K.eqv he).mp hq)
 ·intro j e he gy;obtain⟨x,hx,r⟩:=M9 h4 he;refine ae (gJ (s:={s with toks:=s.toks+t9 k}) h1 h3 ?_);have:ents[j]?=cz x:=by rw[<-bR];exact hx
  rw[this];exact aE (j_ e (bt he) gy _ _ (I.tok _) r.2.2)
def a3m(hf:A9 es k=yp):a0Y es k kv v=es++[(k,kv,v)]:=by unfold a0Y;rw[hf];rfl
def a8k{α β:Type}{R:α->β->Prop}{l:List α}{l':List β}(h:fR R l l'){x:α}{y:β}(r:R x y):fR R (l++[x]) (l'++[y]):=by
 induction h with
 |nil=>exact .cons r .nil
 |cons q _ ih=>exact .cons q ih
def b1m(K:KeysAt X H kt es k kv)(hn:(es.map (·.1)).Nodup)(hf:A9 es k=yp):((es++[(k,kv,v)]).map (·.1)).Nodup:=by
 rw[aO,bu];refine⟨hn,by simp,λx hx y hy e=>?_⟩;simp only[ax,cZ,aq]at hy;subst hy;subst e;obtain⟨e,he,rfl⟩:=aI.mp hx;unfold A9 at hf;rw[eA]at hf;exact hf e he ((K.eqv he).mpr rfl)
def a4T(I:Inv X pins U H s)(h:H a=cz (g9 a es))(K:KeysAt X H kt es k kv)(rk:RelV kv key)(rv:RelV v val)(hl:es.length<aZ)(hf:A9 es k=yp){t':Nat}{o:fY}{ents:Array hJ}{ep:Nat}(h1:s.heap.get? a=cz o)(h2:o.ExactDict)(h3:o.data=.dict ents ep)(h4:fR V2 es ents.toList) :
  Inv X pins U (upd H a (g9 a (es++[(k,kv,v)]))) {s with heap:=s.heap.update a (·.mapDictKeys (·.push ⟨hashD k,key,val⟩)),toks:=t'}:=by
 obtain⟨hs,_,hn,_⟩:=y7 I h;refine I.write (x:=a) (e:=a) (by rw[h];exact jS) (.inl rfl) (λb q hb z=>((fC ..).2 b hb).trans z) ⟨_,cJ _ h1 (ke (nY h3 _))⟩ ?_;refine a1D hs (by simp;lia) (b1m K hn hf) (cJ _ h1 (ke (nY h3 _))) (h2.mapDictKeys _) (nY h3 _) (λhL=>by rw[a6G I h h1 h3 (a8j hL),aA];rfl) ?_;have:=a8k h4 (x:=(k,kv,v)) (y:=⟨hashD k,key,val⟩) ⟨rfl,rk,rv⟩;obtain⟨l⟩:=ents;simpa using this
def b1n(I:Inv X pins U H s)(hu:A.units+10<dQ)(h:H a=cz (g9 a es))(K:KeysAt X H kt es k kv)(rk:RelV kv key)(rv:RelV v val)(hl:es.length<aZ){Q:ak->ar->Prop}
  (kc:A9 es k=yp->∀s',Inv X pins U (upd H a (g9 a (es++[(k,kv,v)]))) s'->Q val s') (j_:∀e∈es,e.1=k->∀x s',Inv X pins U H s'->RelV e.2.2 x->Q x s') :
  aX (aV X.prog X.w) A (wR a key val) Q E s:=by
 obtain⟨_,_,hn,o,ents,ep,h1,h2,h3,h4⟩:=y7 I h;have kN:ents.size<=aZ:=by
  have:=gF h4;have e2:ents.toList.length=ents.size:=by simp
  lia
 unfold wR
 try with_reducible refine cY ?_
 refine ae (a1B I hu K.key K.den rk (ae (a1C (s:={s with toks:=s.toks+t9 k}) (I.tok (s.toks+t9 k)) hu h1 h3 h4 hn K.keys K.key K.den rk ?_ ?_)))
 ·intro oY;have hf:A9 es k=yp:=by
   unfold A9;rw[eA];exact λe he hq=>oY e he ((K.eqv he).mp hq)
  refine ae (iA (ae (wpAny_updateDictKeys (hz:=kN) (s:={s with toks:=s.toks+t9 k}) h1 h3 (aE (kc hf _ (a4T (t':=s.toks+t9 k) I h K rk rv hl hf h1 h2 h3 h4))))))
 ·intro j e he gy;obtain⟨x,hx,r⟩:=M9 h4 he;refine ae (gJ (s:={s with toks:=s.toks+t9 k}) h1 h3 ?_);have:ents[j]?=cz x:=by rw[<-bR];exact hx
  rw[this];exact ae (iA (aE (j_ e (bt he) gy _ _ (I.tok (s.toks+t9 k)) r.2.2)))
def a8l(hp:fR V2 es l)(hn:(es.map (·.1)).Nodup)(hk:∀e∈es,aF e.1 k=yn↔e.1=k)(rv:RelV v val):∀{j:Nat} {e:D×V×V},es[j]?=cz e->e.1=k->
  fR V2 (es.map λe=>if aF e.1 k then (e.1,e.2.1,v) else e) (l.modify j λx=>{x with val:=val}):=by
 induction hp with
 |nil=>intro j e he;simp at he
 |@cons e0 x es l r hp ih=>
  intro j e he gy;rw[ax,bY]at hn;have tP:∀e∈es,aF e.1 k=yn↔e.1=k:=λe he=>hk e (aw _ he)
  cases j with
  |zero=>
   cases he
   have h0:aF e0.1 k=yn:=(hk _ aL).mpr gy;have jK:es.map (λe=>if aF e.1 k then (e.1,e.2.1,v) else e)=es:=by
    have:∀e'∈es,(if aF e'.1 k then (e'.1,e'.2.1,v) else e')=e':=λe' mi=>by
     rw[aJ];intro q;exact hn.1 (by rw[gy,<-(tP e' mi).mp q];exact de mi)
    rw[bH this,um]
   rw[ax,aB h0,jK];exact .cons ⟨r.1,r.2.1,rv⟩ hp
  |succ j=>
   have mi:es[j]?=cz e:=by simpa using he
   have iU:¬ aF e0.1 k=yn:=λq=>hn.1 (by rw[(hk _ aL).mp q,<-gy];exact de (bt mi))
   rw[ax,aJ iU];exact .cons r (ih hn.2 tP mi gy)
def a3n{es:List (D×V×V)}:(es.map λe=>if aF e.1 k then (e.1,e.2.1,v) else e).map (·.1)=es.map (·.1):=by
 rw[bC];refine bH λe _=>?_
 show (if aF e.1 k then (e.1,e.2.1,v) else e).1=e.1
 split<;>rfl
def set_dict(I:Inv X pins U H s)(hu:A.units+10<dQ)(h:H a=cz (g9 a es))(K:KeysAt X H kt es k kv)(rk:RelV kv key)(rv:RelV v val)(hl:es.length<aZ){Q:Unit->ar->Prop}
  (hQ:∀s',Inv X pins U (upd H a (g9 a (a0Y es k kv v))) s'->Q () s'):aX (aV X.prog X.w) A (dictSet a key val) Q E s:=by
 obtain⟨hs,_,hn,o,ents,ep,h1,h2,h3,h4⟩:=y7 I h;have kN:ents.size<=aZ:=by
  have:=gF h4;have e2:ents.toList.length=ents.size:=by simp
  lia
 unfold dictSet
 try with_reducible refine cY ?_
 refine ae (a1B I hu K.key K.den rk ?_);unfold dictSetHashed
 try with_reducible refine cY ?_
 refine ae (a1C (s:={s with toks:=s.toks+t9 k}) (I.tok (s.toks+t9 k)) hu h1 h3 h4 hn K.keys K.key K.den rk ?_ ?_)
 ·intro oY;have hf:A9 es k=yp:=by
   unfold A9;rw[eA];exact λe he hq=>oY e he ((K.eqv he).mp hq)
  rw[a3m hf]at hQ;exact ae (iA (wpAny_updateDictKeys (hz:=kN) (s:={s with toks:=s.toks+t9 k}) h1 h3 (hQ _ (a4T (t':=s.toks+t9 k) I h K rk rv hl hf h1 h2 h3 h4))))
 ·intro j e he gy;have hf:A9 es k=yn:=by
   unfold A9;rw[oP];exact⟨e,bt he,(K.eqv (bt he)).mpr gy⟩
  have rW:a0Y es k kv v=es.map λe=>if aF e.1 k then (e.1,e.2.1,v) else e:=by unfold a0Y;rw[hf];rfl
  rw[rW]at hQ;refine ae (iA (ae (wpAny_updateDict (s:={s with toks:=s.toks+t9 k}) h1 h3 (wpAny_point (hQ _ ?_)))));refine I.write (x:=a) (e:=a) (t':=s.toks+t9 k) (by rw[h];exact jS) (.inl rfl) (λb q hb z=>((fC ..).2 b hb).trans z) ⟨_,cJ _ h1 (ke (se h3 _))⟩ ?_;refine a1D hs (by rw[ai];lia) (by rw[a3n];exact hn) (cJ _ h1 (ke (se h3 _))) (h2.mapDict _) (se h3 _) (λhL=>by rw[S7,a3n]at hL;rw[a6G I h h1 h3 hL,ai]) ?_;have:=a8l h4 hn (λe he=>K.eqv he) rv he gy;obtain⟨l⟩:=ents;simpa using this
end
def b3q(i:Expr):Prop:=∀ov iv,sr i yp ov iv=operate [ov,iv] (qL ov iv)
open PyProof.Rows in
def c3c{prog:bB}{w:bZ}{A:bS}{E:ak->ar->Prop}{s:ar}{env:oQ}{value slice:Expr}{pos:fW}{T id:String}{Q:ak->ar->Prop}
  (hl:typeLookup (.type T) "__getitem__"=pure (cz (.builtin id))) (hs:b3q slice)
  (h:aX (aV prog w) A (cK value env) (λo s₁=>aX (aV prog w) A (cK slice env) (λi s₂=>s₂.TypeIs o T/\aX (aV prog w) A (qL o i) Q E s₂) E s₁) E s) :
  aX (aV prog w) A (cK (.Subscript value slice pos) env) Q E s:=by
 refine PyProof.Rows.Subscript_ (dU h (λo s₁ h₁=>dU h₁ (λi s₂ h₂=>?_) λ_ _ x=>x) λ_ _ x=>x);obtain⟨hT,h₂⟩:=h₂;unfold subscriptTail;refine ae ?_;rw[getitemInPython_of_ne hT.not_modules];refine ae (gA hT hl ?_);have fin:aX (aV prog w) A (sr slice yp o i) (λr s₃=>aX (aV prog w) A (letTemporaryGo value o r >>= λ_=>pure r) Q E s₃) E s₂:=by
  rw[hs o i];exact wpAny_operating (dU h₂ (λr s₃ h₃=>ae (wpAny_letTemporaryGo (aE h₃))) λ_ _ x=>x)
 first
  |exact aE (ae fin)
  |exact ae (aE (ae fin))
  |exact ae fin
section
variable {X:Cx}{pins:List (av×fY)}{U:L2.St}{H:Hp}{s:ar}{A:bS}{E:ak->ar->Prop}{a:av}{es:List (D×V×V)}{kt:Bool}{k:D}{kv v:V}{key val:ak}
def a8m(hu:A.units+12<dQ)(I:Inv X pins U H s)(h:H a=cz (g9 a es))(K:KeysAt X H kt es k kv)(rk:RelV kv key)(hh:A9 es k=yn)
  (hQ:∀e∈es,e.1=k->∀x s',Inv X pins U H s'->RelV e.2.2 x->Q x s'):aX (aV X.prog X.w) A (qL (.ref a) key) Q E s:=by
 have hT:=o9 I h;unfold qL
 try with_reducible refine cY ?_
 refine ae (wpAny_sequenceKey hT (by decide) ?_);refine ae (gf (name:=cH "__getitem__") hT slot_dict_getitem (et slot_dict_getitem hT entry_dict_getitem ?_ (args_dict_getitem _ _)));show aX _ _ (EY a key >>= _) _ _ s;refine ae (get_dict (A:=A.in1) I (by show A.units+1+10<dQ;lia) h K rk (λhf=>by rw[hh]at hf;cases hf) λe he gy x s' I' r=>?_);exact aE ⟨x,rfl,aE (hQ e he gy x s' I' r)⟩
def a6H(hu:A.units+12<dQ)(I:Inv X pins U H s)(h:H a=cz (g9 a es))(K:KeysAt X H kt es k kv)(rk:RelV kv key)
  (hQ:∀s',Inv X pins U H s'->Q (A9 es k) s'):aX (aV X.prog X.w) A (contains (.ref a) key) Q E s:=by
 have hT:=o9 I h;obtain⟨hd,_⟩:=y7 I h;unfold contains
 try with_reducible refine cY ?_
 refine ae (gA hT slot_dict_contains.lookup ?_);show aX _ _ (if (cz (ak.builtin "dict.__contains__")==cz bw)=yn then _ else _) _ E s;rw[aJ (by rw[beq_builtin_none];exact bU)];refine ae (wpAny_callSpecialUnlessNone?_slot (name:=cH "__contains__") hT slot_dict_contains (et slot_dict_contains hT entry_dict_contains ?_ (args_dict_contains _ _)));show aX _ _ (EY a key >>= _) _ _ s;refine ae (get_dict (A:=A.in1) I (by show A.units+1+10<dQ;lia) h K rk (λhf s' I'=>?_) λe he gy x s' I' r=>?_)
 ·rw[hf]at hQ;show aX _ _ (Builtin.Dict.pendingKey? a key >>= _) _ _ _;exact ae (wpAny_pendingKey_other hd (aE ⟨_,rfl,fm (hQ s' I')⟩))
 ·have hf:A9 es k=yn:=by
   unfold A9;rw[oP];exact⟨e,he,(K.eqv he).mpr gy⟩
  rw[hf]at hQ;show aX _ _ (ret (.bool yn)) _ _ _;exact aE ⟨_,rfl,fm (hQ s' I')⟩
def b3r(hu:A.units+12<dQ)(I:Inv X pins U H s)(h:H a=cz (g9 a es))(K:KeysAt X H kt es k kv)(rk:RelV kv key)
  (hQ:∀s',Inv X pins U H s'->Q (.bool (!A9 es k)) s'):aX (aV X.prog X.w) A (cC .NotIn key (.ref a)) Q E s:=by
 show aX _ _ (do return .bool (!(<-contains (.ref a) key))) Q E s;exact ae (a6H hu I h K rk λs' I'=>aE (hQ s' I'))
def a8n(hu:A.units+12<dQ)(I:Inv X pins U H s)(h:H a=cz (g9 a es))(K:KeysAt X H kt es k kv)(rk:RelV kv key)(rv:RelV v val)(hl:es.length<aZ)
  (hQ:∀s',Inv X pins U (upd H a (g9 a (a0Y es k kv v))) s'->Q () s'):aX (aV X.prog X.w) A (Co (.ref a) key val) Q E s:=by
 have hT:=o9 I h;unfold Co
 try with_reducible refine cY ?_
 refine ae (wpAny_sequenceKey hT (by decide) ?_);refine ae (gf (name:=cH "__setitem__") hT slot_dict_setitem (et slot_dict_setitem hT entry_dict_setitem ?_ (args_dict_setitem _ _ _)));show aX _ _ (Builtin.Dict.notOrdered "__setitem__" ⟨[.ref a,key,val],[]⟩ >>= _) _ _ s;refine ae (mW hT ?_);show aX _ _ (dictSet a key val >>= _) _ _ s;exact ae (set_dict (A:=A.in1) I (by show A.units+1+10<dQ;lia) h K rk rv hl λs' I'=>aE ⟨.none,rfl,aE (hQ s' I')⟩)
def b9B(hu:A.units+12<dQ)(I:Inv X pins U H s)(h:H a=cz (g9 a es))(K:KeysAt X H kt es k kv)(rk:RelV kv key)
  (kc:A9 es k=yp->∀s',Inv X pins U H s'->Q .none s') (j_:∀e∈es,e.1=k->∀x s',Inv X pins U H s'->RelV e.2.2 x->Q x s'):aX (aV X.prog X.w) A (call (.builtin "dict.get") [.ref a,key]) Q E s:=by
 have hT:=o9 I h;obtain⟨hd,_⟩:=y7 I h;refine et F.slot_dict_get hT F.entry_dict_get ?_ (F.args_dict_get_2 _ _);show aX _ _ (EY a key >>= _) _ _ s;refine ae (get_dict (A:=A.in1) I (by show A.units+1+10<dQ;lia) h K rk (λhf s' I'=>?_) λe he gy x s' I' r=>?_)
 ·show aX _ _ (Builtin.Dict.missed a key >>= _) _ _ _;exact ae (wpAny_missed_other hd (aE ⟨.none,rfl,kc hf s' I'⟩))
 ·exact aE ⟨x,rfl,j_ e he gy x s' I' r⟩
def b6o(hu:A.units+12<dQ)(I:Inv X pins U H s)(h:H a=cz (g9 a es))(K:KeysAt X H kt es k kv)(rk:RelV kv key)(rv:RelV v val)(hl:es.length<aZ)
  (kc:A9 es k=yp->∀s',Inv X pins U (upd H a (g9 a (es++[(k,kv,v)]))) s'->Q val s') (j_:∀e∈es,e.1=k->∀x s',Inv X pins U H s'->RelV e.2.2 x->Q x s') :
  aX (aV X.prog X.w) A (call (.builtin "dict.setdefault") [.ref a,key,val]) Q E s:=by
 have hT:=o9 I h;obtain⟨hd,_⟩:=y7 I h;refine et F.slot_dict_setdefault hT F.entry_dict_setdefault ?_ (F.args_dict_setdefault_3 _ _ _);unfold Builtin.«dict.setdefault»;refine ae ?_;unfold Builtin.Dict.keyAndDefault;refine ae (mW hT ?_);show aX _ _ (pure (a,key,cz val)) _ _ s;refine aE ?_;show aX _ _ (if (a==dr)=yn then _ else (wR a key val >>= _)) _ _ s;rw[aJ (by rw[hd];exact bU)];exact ae (b1n (A:=A.in1) I (by show A.units+1+10<dQ;lia) h K rk rv hl (λhf s' I'=>aE ⟨_,rfl,kc hf s' I'⟩) λe he gy x s' I' r=>aE ⟨_,rfl,j_ e he gy x s' I' r⟩)
def b9C(I:Inv X pins U H s)(h:H a=cz (g9 a es))(hQ:∀t s',Inv X pins U H s'->Q (.int es.length t) s'):aX (aV X.prog X.w) A (call (.builtin "len") [.ref a]) Q E s:=by
 have hT:=o9 I h;obtain⟨hd,hl,_,o,ents,ep,h1,h2,h3,h4⟩:=y7 I h;have kN:ents.size=es.length:=by
  have:=gF h4;have e2:ents.toList.length=ents.size:=by simp
  lia
 have sC:(es.length:Int)<2^63:=by
  have:aZ<2^62:=by decide
  lia
 refine Calls.call_function_entry kind_len plain_len entry_len (args_len1 _) ?_;unfold Builtin.«len»;refine ae (m:=oneArg "len" _) (aE ?_);refine ae (m:=callSpecial? (.ref a) (cH "__len__")) (gf (name:=cH "__len__") hT ur (et ur hT F.entry_dict_len ?_ (F.args_dict_len_1 _)));show aX _ _ (dictSize a >>= _) _ _ s;unfold dictSize;refine ae (ae (gJ h1 h3 (aE ?_)));show aX _ _ (Builtin.Dict.pendingCount a >>= _) _ _ s;refine ae (wpAny_pendingCount_other hd ?_);refine wpAny_ret_mkInt ?_;rw[Nat.add_zero,kN];refine ae (cY (aE ?_));refine ae (so ?_);show aX _ _ (if ((es.length:Nat):Int)<0 then _ else _) _ _ _;rw[aJ (by lia)];show aX _ _ (if ((es.length:Nat):Int)≥2^63 then _ else _) _ _ _;rw[aJ (by lia)];exact ae (wpAny_mkInt (aE ⟨_,rfl,hQ _ _ (I.tok _)⟩))
end
def K9(kvs:List (D×D))(k:D):Bool:=kvs.any λp=>aF p.1 k
def v6(kvs:List (D×D))(k:D):Option D:=(kvs.find? λp=>aF p.1 k).map (·.2)
def K4(kvs:List (D×D))(k d:D):List (D×D):=if K9 kvs k then kvs.map λp=>if aF p.1 k then (p.1,d) else p else kvs++[(k,d)]
def s9(kt:Bool)(k:D):Bool:=B6 k&&decide (k.depth<=7)&&match k with
 |.tuple _=>kt
 |.int _=>!kt
 |_=>yp
def L1(h:s9 kt k=yn):keyOk kt k:=by
 unfold s9 at h;rw[aC,aC]at h;refine⟨h.1.1,bz h.1.2,λe=>?_,λe=>?_⟩
 ·subst e;cases k with
  |tuple ds=>exact⟨ds,rfl⟩
  |int i=>have:=h.2;simp at this
  |_=>have:=h.2;simp at this
 ·subst e;cases k with
  |int i=>exact⟨i,rfl⟩
  |tuple ds=>have:=h.2;simp at this
  |_=>have:=h.2;simp at this
def dIn(neg kt:Bool):D->D->Option D
 |k,.dict kvs=>if s9 kt k then cz (.bool (neg !=K9 kvs k)) else xn
 |_,_=>xn
def a5H(kt:Bool):D->D->Option D
 |.dict kvs,k=>if s9 kt k then v6 kvs k else xn
 |_,_=>xn
def a3o(kt:Bool):D->D->Option D
 |.dict kvs,k=>if s9 kt k then cz ((v6 kvs k).getD .none) else xn
 |_,_=>xn
noncomputable def a9J:List D->Option D
 |[.dict kvs]=>cz (.int kvs.length)
 |_=>xn
theorem N0:∀{es:List (D×V×V)} {ds:List D},ds.length=es.length->K9 ((es.map (·.1)).zip ds) k=A9 es k
 |[],ds,_=>by simp[K9,A9]
 |e::es,[],h=>by simp at h
 |e::es,d::ds,h=>by
  have ih:=N0 (k:=k) (es:=es) (ds:=ds) (by simpa using h);unfold K9 A9 at ih ⊢;simp only[ax,dB,List.any_cons,ih]
theorem a6I:∀{es:List (D×V×V)} {ds:List D} {j:Nat} {e:D×V×V} {d:D},ds.length=es.length->(∀e∈es,aF e.1 k=yn↔e.1=k)->(es.map (·.1)).Nodup->es[j]?=cz e->e.1=k->ds[j]?=cz d->v6 ((es.map (·.1)).zip ds) k=cz d
 |[],ds,j,e,d,_,_,_,he,_,_=>by simp at he
 |e0::es,[],j,e,d,h,_,_,_,_,_=>by simp at h
 |e0::es,d0::ds,0,e,d,h,hk,_,he,gy,hd=>by
  cases he
  cases hd
  have:aF e0.1 k=yn:=(hk _ aL).mpr gy;simp[v6,this]
 |e0::es,d0::ds,j+1,e,d,h,hk,hn,he,gy,hd=>by
  rw[ax,bY]at hn;have mi:es[j]?=cz e:=by simpa using he
  have jX:ds[j]?=cz d:=by simpa using hd
  have ih:=a6I (k:=k) (by simpa using h) (λe he=>hk e (aw _ he)) hn.2 mi gy jX;have iU:aF e0.1 k=yp:=by
   cases q:aF e0.1 k with
   |false=>rfl
   |true=>exact absurd (by rw[(hk _ aL).mp q,<-gy];exact de (bt mi)) hn.1
  unfold v6 at ih ⊢;simp only[ax,dB,ju,iU];exact ih
def Z5(h:K9 kvs k=yp):v6 kvs k=xn:=by
 unfold K9 at h;rw[eA]at h;unfold v6;rw[nz.mpr λp hp=>by simpa using h p hp];rfl
def a6J(h:v6 kvs k=cz d):K9 kvs k=yn:=by
 cases q:K9 kvs k with
 |true=>rfl
 |false=>rw[Z5 q]at h;cases h
def b1o(h:K9 kvs k=yp):K4 kvs k d=kvs++[(k,d)]:=by unfold K4;rw[h];rfl
def a6K{es:List (D×V×V)}{ds:List D}{k d:D}{kv v:V}(hl:ds.length=es.length):((es++[(k,kv,v)]).map (·.1)).zip (ds++[d])=(es.map (·.1)).zip ds++[(k,d)]:=by
 rw[aO,List.zip_append (by rw[ai];exact hl.symm)];rfl
theorem a2d{v:V}:∀{es:List (D×V×V)} {ds:List D} {j:Nat} {e:D×V×V},ds.length=es.length->(∀e∈es,aF e.1 k=yn↔e.1=k)->(es.map (·.1)).Nodup->es[j]?=cz e->e.1=k->
  ((es.map (·.1)).zip ds).map (λp=>if aF p.1 k then (p.1,d) else p)=(es.map (·.1)).zip (ds.set j d)
 |[],ds,j,e,_,_,_,he,_=>by simp at he
 |e0::es,[],j,e,h,_,_,_,_=>by simp at h
 |e0::es,d0::ds,0,e,h,hk,hn,he,gy=>by
  cases he
  rw[ax,bY]at hn;have h0:aF e0.1 k=yn:=(hk _ aL).mpr gy;have jK:((es.map (·.1)).zip ds).map (λp=>if aF p.1 k then (p.1,d) else p)=(es.map (·.1)).zip ds:=by
   have:∀p∈(es.map (·.1)).zip ds,(if aF p.1 k then (p.1,d) else p)=p:=λp hp=>by
    rw[aJ];intro q;have hm:=(jt hp).1;obtain⟨e',mi,hq⟩:=aI.mp hm;have Dh:e'.1=p.1:=hq;rw[<-Dh]at q;exact hn.1 (by rw[gy,<-(hk e' (aw _ mi)).mp q];exact de mi)
   rw[bH this,um]
  simp only[ax,dB,nv,aB h0,jK]
 |e0::es,d0::ds,j+1,e,h,hk,hn,he,gy=>by
  rw[ax,bY]at hn;have mi:es[j]?=cz e:=by simpa using he
  have ih:=a2d (k:=k) (d:=d) (v:=v) (ds:=ds) (by simpa using h) (λe he=>hk e (aw _ he)) hn.2 mi gy;have iU:¬ aF e0.1 k=yn:=λq=>hn.1 (by rw[(hk _ aL).mp q,<-gy];exact de (bt mi))
  simp only[ax,dB,f_,aJ iU,ih]
section
variable {K:ag}{H:Hp}{F:List av}
theorem Own.dict(h:Own K H F (.d kt u) v d fp):∃a es ds fs,v=.ref a/\H a=cz (g9 a es)/\d=.dict ((es.map (·.1)).zip ds)/\fp=a::fs/\(∀e∈es,keyOk kt e.1/\Den K (cut H F) e.2.1 e.1)/\ListAll (Own K H F u) (es.map (·.2.2)) ds fs/\ds.length=es.length/\(es.map (·.1)).Nodup:=by
 simp only[Own]at h;obtain⟨a,es,ds,fs,h1,h2,h3,h4,h5,h6⟩:=h;exact⟨a,es,ds,fs,h1,h2,h3,h4,h5.2,h6,by have:=h6.length;rw[ai]at this;exact this.symm,h5.1⟩
end
section
variable {X:Cx}{M:List Md}{a b e:Expr}{fa fb:EvE}{ca cb:Cat}{kt:Bool}{u:Ty}{pos:fW}
def keysAt(h:∀e∈es,keyOk kt e.1/\Den X.K (cut H F) e.2.1 e.1)(hk:s9 kt k=yn)(hd:Den X.K H kv k):KeysAt X H kt es k kv:=
 ⟨λe he=>⟨(h e he).1,(h e he).2.up j9⟩,L1 hk,hd⟩
def b6p(X:Cx)(neg:Bool):R2:=λx y H Q=>∃a es kt k,y=.ref a/\H a=cz (g9 a es)/\KeysAt X H kt es k x/\Q (.bl (neg !=A9 es k)) H
def b1p(hu:X.A.units+64<dQ):OpR X (cC .NotIn) (b6p X yn):=by
 intro pins s U H x y v w Q I rx ry h;obtain⟨a,es,kt,k,rfl,hH,K,q⟩:=h;cases (show w=bM a from ry)
 exact b3r (by lia) I hH K rx λs' I'=>⟨.bl _,H,I',rfl,by simpa using q⟩
def b3s(h:dIn neg kt k d=cz r):∃kvs,d=.dict kvs/\s9 kt k=yn/\r=.bool (neg !=K9 kvs k):=by
 cases d with
 |dict kvs=>
  have h':(if s9 kt k then cz (cV (neg !=K9 kvs k)) else xn)=cz r:=h;by_cases c:s9 kt k=yn
  ·rw[aB c]at h';exact⟨kvs,rfl,c,(aH h').symm⟩
  ·rw[aJ c]at h';cases h'
 |_=>cases h
def b6q(ho:OpR X (cC op) (b6p X neg))(ha:PX X M a fa ca)(hb:PX X M b fb (.bor (.d kt u))){Z:List D}(S:StE X.K M Z U H P F)(e1:Same H H1)(e2:Same H1 H2)
  (r1:ResR X.K ca H H1 F v k) (r2:ResR X.K (.bor (.d kt u)) H1 H2 F w d) (hr:dIn neg kt k d=cz r) (q:Q (.bl (match r with|.bool b=>b|_=>yp)) H2):b6p X neg v w H2 Q:=by
 obtain⟨kvs,rfl,hk,rfl⟩:=b3s hr;obtain⟨fp,o,_⟩:=r2;obtain⟨p,es,ds,fs,rfl,hH,hd,_,h5,_,hl,_⟩:=o.dict;cases hd
 refine⟨p,es,kt,k,rfl,hH,keysAt h5 hk (r1.den.up e2),?_⟩;rw[<-N0 hl];exact q
def b9D(ho:OpR X (cC op) (b6p X neg))(ha:PX X M a fa ca)(hb:PX X M b fb (.bor (.d kt u)))(hm:ik op b=yp:=by first|exact a7N _|with_unfolding_all rfl):PTX X M (.Compare a [op] [b] pos) (tB (e2 (dIn neg kt) fa fb)):=by
 obtain⟨ta,pa,qa⟩:=ha.out;obtain⟨tb,pb,qb⟩:=hb.out;refine .mk ⟨_,a9s ho pa pb hm,λZ U H P F k Q S hf q=>?_⟩;obtain⟨d,hf,hk⟩:=bnd hf;cases Q0 hk
 obtain⟨x,y,h1,h2,h3⟩:=D7 hf;exact qa Z U H P F x _ S h1 λv H1 e1 r1=>qb Z U H1 P F y _ (S.grow e1) h2 λw H2 e2 r2=>b6q ho ha hb S e1 e2 r1 r2 h3 ⟨k,rfl,q H2 (e1.trans e2)⟩
def c3d(X:Cx)(td ty:TE):TE:=λU H Q=>td U H λx H1=>ty U H1 λy H2=>∃a es kt k,x=.ref a/\H2 a=cz (g9 a es)/\KeysAt X H2 kt es k y/\A9 es k=yn/\∀e∈es,e.1=k->Q e.2.2 H2
def b9E(hu:X.A.units+64<dQ)(ho:PE X a td)(hi:PE X b ty)(hs:b3q b):PE X (.Subscript a b pos) (c3d X td ty):=by
 intro pins s U H Q I h;refine c3c PySem.F.slot_dict_getitem.lookup hs (L2.thn (ho pins s U H _ I h) λu s1 ⟨x,H1,I1,rx,q1⟩=>L2.thn (hi pins s1 U H1 _ I1 q1) λiv s2 ⟨y,H2,I2,ry,p,es,kt,k,ex,hH,K,hh,q2⟩=>?_);subst ex;obtain rfl:u=bM p:=rx;exact⟨o9 I2 hH,a8m (by lia) I2 hH K ry hh λe he gy x s3 I3 r3=>⟨e.2.2,H2,I3,r3,q2 e he gy⟩⟩
def b1q(h:a5H kt d k=cz r):∃kvs,d=.dict kvs/\s9 kt k=yn/\v6 kvs k=cz r:=by
 cases d with
 |dict kvs=>
  have h':(if s9 kt k then v6 kvs k else xn)=cz r:=h;by_cases c:s9 kt k=yn
  ·rw[aB c]at h';exact⟨kvs,rfl,c,h'⟩
  ·rw[aJ c]at h';cases h'
 |_=>cases h
def a8o{es:List (D×V×V)}{ds:List D}{e:D×V×V}(h6:ListAll (Own X.K H F u) (es.map (·.2.2)) ds fs)(hl:ds.length=es.length)(hn:(es.map (·.1)).Nodup)(K:KeysAt X H kt es k kv)(he:e∈es)(gy:e.1=k) :
  ∃(j:Nat) (d:D) (f:List av),es[j]?=cz e/\ds[j]?=cz d/\v6 ((es.map (·.1)).zip ds) k=cz d/\Own X.K H F u e.2.2 d f/\∀x∈f,x∈fs:=by
 obtain⟨j,hj⟩:=c_.mp he;have jk:j<ds.length:=by rw[hl];exact (aM.mp hj).1
 obtain⟨w,f,pre,post,z1,z2,z3,_⟩:=h6.at_ (ab jk);rw[aQ,hj]at z1;cases z1
 refine⟨j,ds[j],f,hj,ab jk,a6I hl (λe he=>K.eqv he) hn hj gy (ab jk),z2,λx hx=>?_⟩;rw[z3];exact ah _ (aj _ hx)
end
def a5I:Ty->Bool
 |.i=>yn
 |.f=>yn
 |.l _=>yn
 |_=>yp
def a6L:∀{u:Ty},a5I u=yn->Own K H F u .non .none []
 |.i,_=>by simp only[Own];exact⟨trivial,by simp only[imm],den_none⟩
 |.f,_=>by simp only[Own];exact⟨trivial,den_none⟩
 |.l _,_=>by simp only[Own];exact .inl ⟨trivial,by simp only[imm],den_none⟩
 |.tp _,h=>nomatch h
 |.d _ _,h=>nomatch h
section
variable {X:Cx}{M:List Md}{a b e o:Expr}{es:List Expr}{fa fb:EvE}{ca cb:Cat}{kt:Bool}{u:Ty}{pos apos cP:fW}{to:TE}{t:TA}{name:bE}{id:String}{r:V->List V->Hp->VK->Prop}
def b9F(hu:X.A.units+64<dQ)(ha:PX X M a fa (.bor (.d kt u)))(hb:PX X M b fb cb)(hs:b3q b:=by exact λ_ _=>rfl):PX X M (.Subscript a b pos) (e2 (a5H kt) fa fb) (.bor u):=by
 obtain⟨ta,pa,qa⟩:=ha.out;obtain⟨tb,pb,qb⟩:=hb.out;refine .mk ⟨_,b9E hu pa pb hs,λZ U H P F d Q S hf q=>?_⟩;obtain⟨x,y,h1,h2,h3⟩:=D7 hf;obtain⟨kvs,rfl,hk,hg⟩:=b1q h3;refine qa Z U H P F _ _ S h1 λv H1 e1 ⟨fp,o,sub⟩=>qb Z U H1 P F y _ (S.grow e1) h2 λw H2 e2 r2=>?_
 obtain⟨p,es,ds,fs,rfl,hH,hd,rfl,h5,h6,hl,hn⟩:=(o.grow e2).dict;cases hd
 have K:=keysAt (X:=X) h5 hk r2.den;refine⟨p,es,kt,y,rfl,hH,K,by rw[<-N0 hl];exact a6J hg,λe he gy=>?_⟩;obtain⟨j,d',f,_,_,g',o',s'⟩:=a8o h6 hl hn K he gy;rw[hg]at g';cases g'
 exact q _ H2 (e1.trans e2) ⟨f,o',λx hx=>sub x (aw _ (s' x hx))⟩
def c3e(r:V->List V->Hp->VK->Prop)(to:TE)(t:TA):TE:=λU H Q=>to U H λx H1=>(∃p es,x=.ref p/\H1 p=cz (g9 p es))/\t U H1 λxs H2=>r x xs H2 Q
def a8p(slot:Slot "dict" name id)(yM:typeOf (.builtin id)=pure (.type "method_descriptor"))(hm:MtR X id r)(ho:PE X o to)(ha:PA X (e::es) t)
  (fJ:dY o name X.env (cK o X.env)=cK o X.env:=by rfl)
  (iK:((cM cP (au (e::es) X.env)).all (λx=>!x.1)&&(eX cP (dD [] X.env)).all (λx=>x.1.isSome)
   && decide ((e::es).length+([]:List eO).length+(if ([]:List eO).isEmpty then 0 else 1)<30))=yn:=by rfl)
  (fI:(apos.endLine==cP.line)=yn:=by rfl) (hs:au (e::es) X.env=(yp,cK e X.env)::au es X.env:=by rfl) (eJ:(cM cP (au es X.env)).any (·.1)=yp:=by rfl) :
  PE X (.Call (.Attribute o name apos) (e::es) [] cP) (c3e r to t):=by
 intro pins s U H Q I h;refine Cc fJ iK fI rfl (L2.thn (ho pins s U H _ I h) λv s1 ⟨x,H1,I1,r1,⟨p,BI,ex,hH⟩,q1⟩=>?_);subst ex;obtain rfl:v=bM p:=r1;refine⟨"dict",id,sQ,slot,yM,o9 I1 hH,a0Z I1 hH,?_⟩;have hA:=ha cP pins s1 U H1 _ I1 q1;rw[hs]at hA ⊢;refine mK (by show (yp||(cM cP (au es X.env)).any (·.1))=yp;rw[eJ]<;>rfl) (og ?_);exact L2.thn hA λus s2 ⟨vs,H2,I2,r2,q2⟩=>hm pins s2 U H2 (.ref p) vs (.ref p) us Q I2 rfl r2 q2
def b7Z(X:Cx):V->List V->Hp->VK->Prop:=λx xs H Q=>∃p es kt k y,x=.ref p/\xs=[y]/\H p=cz (g9 p es)/\KeysAt X H kt es k y/\(A9 es k=yp->Q .non H)/\∀e∈es,e.1=k->Q e.2.2 H
def b3t(hu:X.A.units+64<dQ):MtR X "dict.get" (b7Z X):=by
 intro pins s U H x xs v us Q I rx rv h;obtain⟨p,es,kt,k,y,rfl,rfl,hH,K,q1,q2⟩:=h;cases (show v=bM p from rx)
 obtain⟨w,rfl,rw⟩:=rv.one;exact b9B (by lia) I hH K rw (λhf s' I'=>⟨.non,H,I',rfl,q1 hf⟩) λe he gy x s' I' r'=>⟨e.2.2,H,I',r',q2 e he gy⟩
def a8q{d k r:D}(h:a3o kt d k=cz r):∃kvs,d=.dict kvs/\s9 kt k=yn/\r=(v6 kvs k).getD .none:=by
 cases d with
 |dict kvs=>
  have h':(if s9 kt k then cz ((v6 kvs k).getD .none) else xn)=cz r:=h;by_cases c:s9 kt k=yn
  ·rw[aB c]at h';exact⟨kvs,rfl,c,(aH h').symm⟩
  ·rw[aJ c]at h';cases h'
 |_=>cases h
def b9G(hu:X.A.units+64<dQ)(ha:PX X M a fa (.bor (.d kt u)))(hb:PX X M b fb cb)(oY:a5I u=yn:=by rfl)(fJ:dY a "get" X.env (cK a X.env)=cK a X.env:=by rfl)
  (iK:((cM cP (au [b] X.env)).all (λx=>!x.1)&&(eX cP (dD [] X.env)).all (λx=>x.1.isSome)
   && decide (([b]:List Expr).length+([]:List eO).length+(if ([]:List eO).isEmpty then 0 else 1)<30))=yn:=by rfl)
  (fI:(apos.endLine==cP.line)=yn:=by rfl) (hs:au [b] X.env=(yp,cK b X.env)::au [] X.env:=by rfl) (eJ:(cM cP (au [] X.env)).any (·.1)=yp:=by rfl) :
  PX X M (.Call (.Attribute a "get" apos) [b] [] cP) (e2 (a3o kt) fa fb) (.bor u):=by
 obtain⟨ta,pa,qa⟩:=ha.out;obtain⟨tb,pb,qb⟩:=hb.out;refine .mk ⟨_,a8p uU uT (b3t hu) pa (l0 pb p9 hs) fJ iK fI hs eJ,λZ U H P F d Q S hf q=>?_⟩;obtain⟨x,y,h1,h2,h3⟩:=D7 hf;obtain⟨kvs,rfl,hk,rfl⟩:=a8q h3;refine qa Z U H P F _ _ S h1 λv H1 e1 ⟨fp,o,sub⟩=>?_
 obtain⟨p,es,ds,fs,rfl,hH,_,Gg,_⟩:=o.dict;refine⟨⟨p,es,rfl,hH⟩,qb Z U H1 P F y _ (S.grow e1) h2 λw H2 e2 r2=>?_⟩;obtain⟨p',jn,jC,jM,ep,wM,jX,Aa,h5,h6,hl,hn⟩:=(o.grow e2).dict;cases ep
 injection jX with nM
 have K:=keysAt (X:=X) h5 hk r2.den;refine⟨p,jn,kt,y,w,rfl,rfl,wM,K,λhf=>?_,λe he gy=>?_⟩
 ·have:v6 kvs y=xn:=Z5 (by rw[nM,N0 hl];exact hf);rw[this]at q;exact q .non H2 (e1.trans e2) ⟨[],a6L oY,λa ha=>(nomatch ha)⟩
 ·obtain⟨j,d',f,_,_,g',o',s'⟩:=a8o h6 hl hn K he gy;rw[nM,g']at q;exact q _ H2 (e1.trans e2) ⟨f,o',λx hx=>sub x (by rw[Aa];exact aw _ (s' x hx))⟩
def b1r:CallR X (.builtin "len") (λxs H Q=>∃p es,xs=[V.ref p]/\H p=cz (g9 p es)/\Q (.int es.length) H):=by
 intro pins s U H xs us Q I rv h;obtain⟨p,es,rfl,hH,q⟩:=h;obtain⟨w,rfl,rw⟩:=rv.one;cases (show w=bM p from rw)
 exact b9C I hH λt s' I'=>⟨.int es.length,H,I',⟨t,rfl⟩,q⟩
def b6r(hm:X.mg "len"=xn)(ha:PX X M a fa (.bor (.d kt u)))(hg:Gl X "len":=by rfl)(he:au [a] X.env=(yp,cK a X.env)::au [] X.env:=by rfl)(gT:(cM pos (au [] X.env)).any (·.1)=yp:=by rfl) :
  PX X M (.Call (.Name "len" p) [a] [] pos) (eCl a9J (a7 fa c6)) (.new .i):=by
 obtain⟨ta,pa,qa⟩:=ha.out;refine .mk ⟨_,a2S b1r hg hm PySem.boot_len (l0 pa p9 he) (by decide) (by decide) he gT,λZ U H P F d Q S hf q=>?_⟩;obtain⟨xs,h1,h2⟩:=bnd hf;obtain⟨x,h3,h4⟩:=bnd h1;obtain⟨kn,h5,h6⟩:=bnd h4;cases h5
 cases h6
 have hx:∃kvs,x=.dict kvs/\d=.int kvs.length:=by
  cases x with
  |dict kvs=>cases h2;exact⟨kvs,rfl,rfl⟩
  |_=>cases h2
 obtain⟨kvs,rfl,rfl⟩:=hx;refine qa Z U H P F _ _ S h3 λv H1 e1 ⟨fp,o,sub⟩=>?_
 obtain⟨p,es,ds,fs,rfl,hH,hd,_,_,_,hl,_⟩:=o.dict
 injection hd with hd
 have hlen:kvs.length=es.length:=by rw[hd,pP,ai,hl,ug]
 refine⟨p,es,rfl,hH,?_⟩;rw[<-hlen];exact q _ H1 e1 (O1 (by simp only[imm]) den_int (S.lst' e1))
def a6M(h:cS)(hb:dr<h.objs.size):ObjOk P w H (h.push {cls:=.type "dict",data:=.dict #[]}) h.objs.size (g9 h.objs.size []):=
 a1D (fS.mpr (cR (bP hb))) (cG _) bD (bh _ rfl) ⟨rfl,rfl,rfl⟩ rfl (λ_=>rfl) .nil
def b3u:PE X (.Dict [] [] pos) (λ_ H Q=>∀p,H p=xn->Q (.ref p) (upd H p (g9 p []))):=λpins s U H Q I h=>
 wpAny_Dict_empty ⟨.ref s.heap.objs.size,_,I.laid (a:=s.heap.objs.size) (o:=g9 s.heap.objs.size []) (t':=s.toks) (λ_ _ q=>aG _ q) (ay _) (a6M s.heap I.sysBelow),rfl,h _ (I.hok.fresh (ay _))⟩
def X2(kt:Bool)(u:Ty):PX X M (.Dict [] [] pos) (eC (.dict [])) (.new (.d kt u)):=by
 refine .mk ⟨_,b3u,λZ U H P F d Q S hf q=>?_⟩;cases hf
 intro p hp;refine q _ _ (k8 hp _) ⟨[p],?_,by simp,λa ha=>by rw[aq.mp ha];exact hp⟩;simp only[Own];exact⟨p,[],[],[],rfl,f8,rfl,rfl,⟨bD,λe he=>(nomatch he)⟩,l8⟩
end
section
variable {K:ag}{H:Hp}{F:List av}
theorem StE.dict{Z:List D}(S:StE K M Z U H P F)(hm:M[i]?=cz (.own (.d kt u))) :
  ∃a es ds fs,U[i]?=cz (cz (.ref a))/\H a=cz (g9 a es)/\Z.getD i .none=.dict ((es.map (·.1)).zip ds)/\(∀e∈es,keyOk kt e.1/\Den K (cut H F) e.2.1 e.1)/\ListAll (Own K H F u) (es.map (·.2.2)) ds fs/\ds.length=es.length/\(es.map (·.1)).Nodup:=by
 obtain⟨v,f,h1,o,_⟩:=S.get hm;obtain⟨a,es,ds,fs,rfl,h2,h3,_,h5,h6,h7,h8⟩:=o.dict;exact⟨a,es,ds,fs,h1,h2,h3,h5,h6,h7,h8⟩
theorem a6N:∀{es:List (D×V×V)} {j:Nat} {e:D×V×V},(es.map (·.1)).Nodup->(∀e∈es,aF e.1 k=yn↔e.1=k)->es[j]?=cz e->e.1=k->(es.map λe=>if aF e.1 k then (e.1,e.2.1,v) else e).map (·.2.2)=(es.map (·.2.2)).set j v
 |[],j,e,_,_,hj,_=>by simp at hj
 |e0::es,0,e,hn,mz,hj,gy=>by
  rw[ax,bY]at hn;cases hj
  have jK:es.map (λe=>if aF e.1 k then (e.1,e.2.1,v) else e)=es:=by
   have:∀e'∈es,(if aF e'.1 k then (e'.1,e'.2.1,v) else e')=e':=λe' mi=>by
    rw[aJ];intro q;exact hn.1 (by rw[gy,<-(mz e' (aw _ mi)).mp q];exact de mi)
   rw[bH this,um]
  rw[ax,aB ((mz _ aL).mpr gy),jK];rfl
 |e0::es,j+1,e,hn,mz,hj,gy=>by
  rw[ax,bY]at hn;have qA:es[j]?=cz e:=by simpa using hj
  have iU:¬ aF e0.1 k=yn:=λq=>hn.1 (by rw[(mz _ aL).mp q,<-gy];exact de (bt qA))
  rw[ax,aJ iU,ax,ax,f_,a6N hn.2 (λe he=>mz e (aw _ he)) qA gy]
def Pend.dput{Z:List D}(h:Pend K ([]++[.own u]) ([]++[d]) ([]++[cz v]) M Z U H P F)(hm:M[i]?=cz (.own (.d kt u)))(hk:keyOk kt k)(DJ:Den K H kv k) :
  ∃a es ds fs,U[i]?=cz (cz (.ref a))/\H a=cz (g9 a es)/\Z.getD i .none=.dict ((es.map (·.1)).zip ds)/\(∀e∈es,keyOk kt e.1/\Den K (cut H F) e.2.1 e.1)/\ListAll (Own K H F u) (es.map (·.2.2)) ds fs/\ds.length=es.length/\(es.map (·.1)).Nodup/\
   StR K M (Z.set i (.dict (K4 ((es.map (·.1)).zip ds) k d))) U (upd H a (g9 a (a0Y es k kv v))) P F:=by
 obtain⟨_,_,S⟩:=h;obtain⟨G,h1,h2,h3⟩:=S.all;have nE:StAll K H F (.own u::M) (d::Z) (cz v::U) G:=by simpa using h1
 simp only[StAll]at nE;obtain⟨d',Z',o',U',fv,G2,e1,e2,rfl,⟨v',e3,ov⟩,h5⟩:=nE;cases e1
 cases e2
 cases e3
 obtain⟨dd,oo,f,pre,post,q1,q2,⟨v2,rfl,q3⟩,rfl,q5⟩:=h5.at_ hm;obtain⟨a,es,ds,fs,rfl,r2,r3,rfl,r5,r6,hl,hn⟩:=q3.dict;have wD:a∈F:=h3 a (by simp);have gQ:∀o,Same (cut H F) (cut (upd H a o) F):=λo b o' hb=>by
  obtain⟨n1,n2⟩:=m8 hb;exact i9 n1 (by rw[c7 (show b≠a from λz=>n1 (z▸wD))];exact n2)
 have cnt:∀b,b=a->(pre++post).count b=0/\fs.count b=0/\fv.count b=0:=λb e=>by
  subst e;have:=du.mp h2 b;simp only[bG,bp,xa]at this ⊢;exact⟨by lia,by lia,by lia⟩
 have kk:∀(l:List av) (o:HO),(∀b,b=a->l.count b=0)->∀b∈l,upd H a o b=H b:=λl o hc b hb=>c7 λz=>by
  have:=hc b z;rw[fB]at this;exact this hb
 have DK:Den K (cut H F) kv k:=DJ.imm_out S.lst k (W3 _ hk.1);have mz:∀e∈es,aF e.1 k=yn↔e.1=k:=λe he=>D5 e.1 k (r5 e he).1.1 hk.1
 have fin:∀(jn:List (D×V×V)) (jC:List D) (jM:List av),(jn.map (·.1)).Nodup->(∀e∈jn,keyOk kt e.1/\Den K (cut H F) e.2.1 e.1)->ListAll (Own K (upd H a (g9 a jn)) F u) (jn.map (·.2.2)) jC jM->(∀b,jM.count b<=fs.count b+fv.count b)->
   StR K M (Z.set i (.dict ((jn.map (·.1)).zip jC))) U (upd H a (g9 a jn)) P F:=λjn jC jM vM tP ha oI=>by
  have o1:Own K (upd H a (g9 a jn)) F (.d kt u) (.ref a) (.dict ((jn.map (·.1)).zip jC)) (a::jM):=by
   simp only[Own];exact⟨a,jn,jC,jM,rfl,f8,rfl,rfl,⟨vM,λe he=>⟨(tP e he).1,(tP e he).2.up (gQ _)⟩⟩,ha⟩
  have q:=q5 (upd H a (g9 a jn)) F (.own (.d kt u)) (.dict ((jn.map (·.1)).zip jC)) (cz (.ref a)) _ (kk _ _ λb e=>(cnt b e).1) (gQ _) ⟨_,rfl,o1⟩;rw[set_same (l:=U) q2,set_same (l:=M) hm]at q;refine⟨⟨_,q,X0 h2 λb=>?_,λb hb=>?_⟩,λb hb=>?_,S.prot.trans (gQ _)⟩
  ·have:=oI b;simp only[bG,bp,eF];lia
  ·have hc:0<(fv++(pre++(a::fs++post))).count b:=by
    have h0:=fA.mpr hb;have:=oI b;simp only[bG,bp,eF]at h0 ⊢;lia
   exact h3 b (fA.mp hc)
  ·by_cases e:b=a
   ·subst e;exact⟨⟨g9 b jn,trivial⟩,f8⟩
   ·obtain⟨ys,y⟩:=S.lst b hb;exact⟨ys,by rw[c7 e];exact y⟩
 refine⟨a,es,ds,fs,q2,r2,by rw[A1 q1];exact r3,r5,r6,hl,hn,?_⟩;cases hf:A9 es k with
 |false=>
  rw[a3m hf,b1o (by rw[N0 hl];exact hf),<-a6K (kv:=kv) (v:=v) hl];refine fin (es++[(k,kv,v)]) (ds++[d]) (fs++fv) ?_ ?_ ?_ λb=>by rw[bG];exact ay _
  ·rw[aO,bu];refine⟨hn,by simp,λx hx y hy e=>?_⟩;simp only[ax,cZ,aq]at hy;subst hy;subst e;obtain⟨e,he,rfl⟩:=aI.mp hx;unfold A9 at hf;rw[eA]at hf;exact hf e he ((mz e he).mpr rfl)
  ·intro e he;rcases ao.mp he with z|z
   ·exact r5 e z
   ·rw[aq.mp z];exact⟨hk,DK⟩
  ·rw[aO];refine (l5 (gQ _) r6 (kk _ _ λb e=>(cnt b e).2.1)).append ?_;have:=k9 (R:=Own K (upd H a (g9 a (es++[(k,kv,v)]))) F u) (ov.frame (gQ _) u (kk _ _ λb e=>(cnt b e).2.2)) l8
   rwa[bb]at this
 |true=>
  have hh:=hf;unfold A9 at hf;rw[oP]at hf;obtain⟨e,he,gy⟩:=hf;have wj:=(mz e he).mp gy;obtain⟨j,hj⟩:=c_.mp he;have rO:j<ds.length:=by rw[hl];exact (aM.mp hj).1
  have tJ:a0Y es k kv v=es.map λe=>if aF e.1 k then (e.1,e.2.1,v) else e:=by unfold a0Y;rw[hh];rfl
  have vE:K4 ((es.map (·.1)).zip ds) k d=(es.map (·.1)).zip (ds.set j d):=by
   unfold K4;rw[N0 hl,hh];exact a2d (v:=v) hl mz hn hj wj
  have sD:(a0Y es k kv v).map (·.1)=es.map (·.1):=by rw[tJ];exact a3n
  rw[vE,<-sD];obtain⟨w3,f3,a1,a2,s1,s2,BM,s4⟩:=r6.zip (ab rO);have vz:(a0Y es k kv v).map (·.2.2)=(es.map (·.2.2)).set j v:=by
   rw[tJ];exact a6N hn mz hj wj
  refine fin (a0Y es k kv v) (ds.set j d) (a1++(fv++a2)) (by rw[sD];exact hn) ?_ ?_ λb=>by rw[BM];simp only[bG];lia
  ·intro e' mi;rw[tJ]at mi;obtain⟨e0,Bi,rfl⟩:=aI.mp mi
   split
   ·exact r5 e0 Bi
   ·exact r5 e0 Bi
  ·rw[vz];have c5:∀b,b=a->(a1++a2).count b=0:=λb e=>by have:=(cnt b e).2.1;rw[BM]at this;simp only[bG]at this ⊢;lia
   exact s4 _ F v d fv (kk _ _ c5) (gQ _) (ov.frame (gQ _) u (kk _ _ λb e=>(cnt b e).2.2))
end
noncomputable def F6(i:Nat)(kt:Bool)(fk fv:EvE):EvS:=λZ=>(fv Z).bind λd=>(fk Z).bind λk=>match Z.getD i .none with
 |.dict kvs=>if s9 kt k&&decide (kvs.length<1000000) then cz (.nx (Z.set i (.dict (K4 kvs k d)))) else xn
 |_=>xn
abbrev EvX:=List D->Option (D×List D)
def C4(kvs:List (D×D))(k d:D):List (D×D):=if K9 kvs k then kvs else kvs++[(k,d)]
def scal:D->Bool
 |.int _=>yn
 |.bool _=>yn
 |.none=>yn
 |_=>yp
noncomputable def V3(i:Nat)(kt:Bool)(fk fe:EvE):EvX:=λZ=>(fk Z).bind λk=>(fe Z).bind λd=>match Z.getD i .none with
 |.dict kvs=>if s9 kt k&&decide (kvs.length<1000000)&&scal d then cz ((v6 kvs k).getD d,Z.set i (.dict (C4 kvs k d))) else xn
 |_=>xn
noncomputable def a6O(j:Nat)(f:EvX):EvS:=λZ=>(f Z).bind λp=>match p.2.getD j .none with
 |.list ds=>if ds.length<1000000 then cz (.nx (p.2.set j (.list (ds++[p.1])))) else xn
 |_=>xn
noncomputable def b3v(f:EvX):EvS:=λZ=>(f Z).bind λp=>cz (.nx p.2)
def b3w(h:scal d=yn)(hd:Den K H v d):∀H',Den K H' v d:=by
 intro H';cases d with
 |int i=>cases hd.int_inv;exact den_int
 |bool i=>cases hd.bool_inv;exact den_bool
 |none=>cases hd.none_inv;exact den_none
 |_=>cases h
def b3x(h:scal d=yn):imm d=yn:=by
 cases d with
 |int i=>simp only[imm]
 |bool i=>simp only[imm]
 |none=>simp only[imm]
 |_=>cases h
noncomputable def PXE(X:Cx)(M:List Md)(e:Expr)(f:EvX)(u:Ty)(M1:List Md):Prop:=
 ∃t,PE X e t/\∀(Z:List D) (U:L2.St) (H P:Hp) (F:List av) (d:D) (Z':List D) (Q:VK),StR X.K M Z U H P F->f Z=cz (d,Z')->
  (∀v H' F',Pend X.K ([]++[.own u]) ([]++[d]) ([]++[cz v]) M1 Z' U H' P F'->Q v H')->t U H Q
section
variable {X:Cx}{M M1 ML:List Md}{e k v:Expr}{fk fe fv:EvE}{f:EvX}{ck:Cat}{kt:Bool}{u w:Ty}{pos apos cP jg:fW}
def c1I(X:Cx)(td ty tv:TE):TS:=λD U H=>tv U H λv H1=>td U H1 λx H2=>ty U H2 λy H3=>∃a es kt k,x=.ref a/\H3 a=cz (g9 a es)/\KeysAt X H3 kt es k y/\es.length<aZ/\D.nx U (upd H3 a (g9 a (a0Y es k y v)))
def b6s(hu:X.A.units+64<dQ)(ho:PE X o td)(hi:PE X k ty)(hv:PE X v tv)(hs:eR v (cz (.Subscript o k jg)) pos.line X.env=pure yp) :
  PS X (.Assign [.Subscript o k jg] v pos) (c1I X td ty tv):=by
 intro pins s U H D I h;refine wpAny_Assign_Subscript (L2.thn (hv pins s U H _ I h) λr s1 ⟨v,H1,I1,rv,q1⟩=>L2.thn (ho pins s1 U H1 _ I1 q1) λu s2 ⟨x,H2,I2,rx,q2⟩=>L2.thn (hi pins s2 U H2 _ I2 q2) λiv s3 ⟨y,H3,I3,ry,a,es,kt,k,ex,hH,K,hl,q3⟩=>?_) hs;subst ex;obtain rfl:u=bM a:=rx;exact a8n (by lia) I3 hH K ry rv hl λs4 I4=>⟨U,_,I4,q3⟩
def a2H(i:Nat)(hu:X.A.units+64<dQ)(hk:PX X M1 k fk ck)(hv:PMX X M v fv u M1)(hN:X.N[i]?=cz x:=by rfl)(qT:autoParam (Vis X.env.scope x) ZY._auto_1)(hd:autoParam ((x==("__debug__":bE))=yp) ZV._auto_1)
  (iC:autoParam ((x==("__classdict__":bE))=yp) ZV._auto_1) (hm:M1[i]?=cz (.own (.d kt u)):=by rfl) (hs:eR v (cz (.Subscript (.Name x px) k jg)) pos.line X.env=pure yp:=by rfl) :
  PSX X w ML M (.Assign [.Subscript (.Name x px) k jg] v pos) (F6 i kt fk fv) M1:=by
 obtain⟨tv,pv,qv⟩:=hv;obtain⟨tk,pk,qk⟩:=hk.out;refine .mk ⟨_,b6s hu (y8 hN qT hd iC) pk pv hs,λD Z U H P F o S hg kk=>?_⟩;obtain⟨d,h1,g1⟩:=bnd hg;obtain⟨y,h2,g2⟩:=bnd g1;refine qv [] [] [] Z U H P F d _ S.pend h1 λv1 H1 F1 e1 S1=>?_
 obtain⟨a,es,ds,fs,ha,hH,hZ,_⟩:=S1.e.dict hm;rw[hZ]at g2;have ni:(if (s9 kt y&&decide (((es.map (·.1)).zip ds).length<1000000))=yn then cz (Out.nx (Z.set i (.dict (K4 ((es.map (·.1)).zip ds) y d)))) else xn)=cz o:=g2;by_cases c:(s9 kt y&&decide (((es.map (·.1)).zip ds).length<1000000))=yn
 ·rw[aB c]at ni;cases ni
  rw[aC]at c;refine⟨_,ha,qk Z U H1 P F1 y _ S1.e h2 λkv H2 e2 r2=>?_⟩;obtain⟨a',jn,jC,jM,qI,wM,sH,hK,_,sC,_,S3⟩:=(S1.grow e2).dput hm (L1 c.1) r2.den;rw[ha]at qI;cases qI
  rw[hZ]at sH
  injection sH with sH
  refine⟨a,jn,kt,y,rfl,wM,keysAt hK c.1 r2.den,?_,kk U _ F1 (by rw[sH];exact S3)⟩;have hlen:((jn.map (·.1)).zip jC).length=jn.length:=by rw[pP,ai,sC,ug]
  rw[<-hlen,<-sH];exact jG (bz c.2) (by rw[cX];decide)
 ·rw[aJ c]at ni;cases ni
def b9H(X:Cx):V->List V->Hp->VK->Prop:=λx xs H Q=>∃p es kt k y z,x=.ref p/\xs=[y,z]/\H p=cz (g9 p es)/\KeysAt X H kt es k y/\es.length<aZ/\(A9 es k=yp->Q z (upd H p (g9 p (es++[(k,y,z)]))))/\∀e∈es,e.1=k->Q e.2.2 H
def b6t(hu:X.A.units+64<dQ):MtR X "dict.setdefault" (b9H X):=by
 intro pins s U H x xs v us Q I rx rv h;obtain⟨p,es,kt,k,y,z,rfl,rfl,hH,K,hl,q1,q2⟩:=h;cases (show v=bM p from rx)
 obtain⟨w1,w2,rfl,r1,r2⟩:=vals2 rv;exact b6o (by lia) I hH K r1 r2 hl (λhf s' I'=>⟨z,_,I',r2,q1 hf⟩) λe he gy x s' I' r'=>⟨e.2.2,H,I',r',q2 e he gy⟩
def a6P(i:Nat)(hu:X.A.units+64<dQ)(hk:PX X M k fk (.new .i))(he:PX X M e fe (.new .i))(hN:X.N[i]?=cz x:=by rfl)(qT:autoParam (Vis X.env.scope x) ZY._auto_1)(hd:autoParam ((x==("__debug__":bE))=yp) ZV._auto_1)
  (iC:autoParam ((x==("__classdict__":bE))=yp) ZV._auto_1) (hm:M[i]?=cz (.own (.d kt .i)):=by rfl) (fJ:dY (.Name x px) "setdefault" X.env (cK (.Name x px) X.env)=cK (.Name x px) X.env:=by rfl)
  (iK:((cM cP (au [k,e] X.env)).all (λx=>!x.1)&&(eX cP (dD [] X.env)).all (λx=>x.1.isSome)
   && decide (([k,e]:List Expr).length+([]:List eO).length+(if ([]:List eO).isEmpty then 0 else 1)<30))=yn:=by rfl)
  (fI:(apos.endLine==cP.line)=yn:=by rfl) (hs:au [k,e] X.env=(yp,cK k X.env)::au [e] X.env:=by rfl) (nh:au [e] X.env=(yp,cK e X.env)::au [] X.env:=by rfl) (eJ:(cM cP (au [e] X.env)).any (·.1)=yp:=by rfl) :
  PXE X M (.Call (.Attribute (.Name x px) "setdefault" apos) [k,e] [] cP) (V3 i kt fk fe) .i M:=by
 obtain⟨tk,pk,qk⟩:=hk.out;obtain⟨te,pe,qe⟩:=he.out;refine⟨_,a8p PySem.F.slot_dict_setdefault PySem.F.type_dict_setdefault (b6t hu) (y8 hN qT hd iC) (l0 pk (l0 pe p9 nh) hs) fJ iK fI hs eJ,λZ U H P F d Z' Q S hf q=>?_⟩;obtain⟨y,h1,g1⟩:=bnd hf;obtain⟨z,h2,g2⟩:=bnd g1;obtain⟨a,es,ds,fs,ha,hH,hZ,_⟩:=S.toE.dict hm;rw[hZ]at g2;have ni:(if (s9 kt y&&decide (((es.map (·.1)).zip ds).length<1000000)&&scal z)=yn then cz ((v6 ((es.map (·.1)).zip ds) y).getD z,Z.set i (.dict (C4 ((es.map (·.1)).zip ds) y z))) else xn)=cz (d,Z'):=g2;by_cases c:(s9 kt y&&decide (((es.map (·.1)).zip ds).length<1000000)&&scal z)=yn
 ·rw[aB c]at ni
  injection ni with ni
  injection ni with ed eZ
  rw[aC,aC]at c;refine⟨.ref a,ha,⟨a,es,rfl,hH⟩,?_⟩;refine qk Z U H P F y _ S.toE h1 λkv H1 e1 r1=>qe Z U H1 P F z _ (S.grow e1).toE h2 λzv H2 e2 r2=>?_
  have S2:=S.grow (e1.trans e2);have wU:=r1.den.up e2;have own:∀(H':Hp) (F':List av),Own X.K H' ([]++F') .i zv z []:=λH' F'=>by
   simp only[Own];exact⟨trivial,b3x c.2,b3w c.2 r2.den _⟩
  have S3:=S2.pend.new (Same.refl H2) (own H2 F) bD λa ha=>(nomatch ha)
  obtain⟨a',jn,jC,jM,qI,wM,sH,h5,h6,hl,hn,S4⟩:=S3.dput hm (L1 c.1.1) wU;rw[ha]at qI;cases qI
  rw[hZ]at sH
  injection sH with nM
  have K:KeysAt X H2 kt jn y kv:=keysAt h5 c.1.1 wU;have hlen:jn.length<aZ:=by
   have e3:((jn.map (·.1)).zip jC).length=jn.length:=by rw[pP,ai,hl,ug]
   rw[<-e3,<-nM];exact jG (bz c.1.2) (by rw[cX];decide)
  refine⟨a,jn,kt,y,kv,zv,rfl,rfl,wM,K,hlen,λhf=>?_,λe he gy=>?_⟩
  ·have oY:K9 ((es.map (·.1)).zip ds) y=yp:=by rw[nM,N0 hl];exact hf
   have eE:a0Y jn y kv zv=jn++[(y,kv,zv)]:=a3m hf;rw[<-eE];have tW:d=z:=by rw[<-ed,Z5 oY];rfl
   have zL:Z'=Z.set i (.dict (K4 ((jn.map (·.1)).zip jC) y z)):=by
    rw[<-eZ,<-nM];unfold C4 K4;rw[oY];rfl
   rw[tW,zL]at q;exact q zv _ _ (S4.pend.new (Same.refl _) (own _ _) bD λa ha=>(nomatch ha))
  ·obtain⟨j,d',f,_,_,g',o',_⟩:=a8o h6 hl hn K he gy;obtain⟨rfl,o2⟩:=a2a o';have tW:d=d':=by rw[<-ed,nM,g'];rfl
   have zL:Z'=Z:=by
    rw[<-eZ];unfold C4;rw[a6J (by rw[nM];exact g'),aB rfl,<-hZ];have hi:∃x,Z[i]?=cz x:=by
     obtain⟨G,q1,_⟩:=S.all;obtain⟨d0,_,_,_,_,z1,_⟩:=q1.at_ hm;exact⟨d0,z1⟩
    obtain⟨x,hx⟩:=hi;rw[A1 hx];exact set_same hx
   rw[tW,zL]at q;exact q _ H2 _ (S2.pend.new (Same.refl _) (by simp only[Own,bx];exact⟨trivial,o2⟩) bD λa ha=>(nomatch ha))
 ·rw[aJ c]at ni;cases ni
end
section
variable {X:Cx}{M M1 ML:List Md}{e:Expr}{f:EvX}{u w t:Ty}{pos apos cP:fW}
def b6u(j:Nat)(he:PXE X M e f t M1)(hN:X.N[j]?=cz x:=by rfl)(qT:autoParam (Vis X.env.scope x) ZY._auto_1)(hd:autoParam ((x==("__debug__":bE))=yp) ZV._auto_1)
  (iC:autoParam ((x==("__classdict__":bE))=yp) ZV._auto_1) (Dy:M[j]?=cz (.own (.l t)):=by rfl) (hm:M1[j]?=cz (.own (.l t)):=by rfl) (hni:∀Z p,f Z=cz p->p.2.getD j .none=Z.getD j .none)
  (fJ:dY (.Name x px) "append" X.env (cK (.Name x px) X.env)=cK (.Name x px) X.env:=by rfl)
  (iK:((cM cP (au [e] X.env)).all (λx=>!x.1)&&(eX cP (dD [] X.env)).all (λx=>x.1.isSome)
   && decide ([e].length+([]:List eO).length+(if ([]:List eO).isEmpty then 0 else 1)<30))=yn:=by rfl)
  (fI:(apos.endLine==cP.line)=yn:=by rfl) (hs:au [e] X.env=(yp,cK e X.env)::au [] X.env:=by rfl) (eJ:(cM cP (au [] X.env)).any (·.1)=yp:=by rfl)
  (oF:eR (.Call (.Attribute (.Name x px) "append" apos) [e] [] cP) xn pos.line X.env=pure yp:=by rfl) :
  PSX X w ML M (.Expr (.Call (.Attribute (.Name x px) "append" apos) [e] [] cP) pos) (a6O j f) M1:=by
 obtain⟨te,pe,qe⟩:=he;refine .mk ⟨_,R8 (a4F eS kB kA Y7 (y8 hN qT hd iC) (l0 pe p9 hs) fJ iK fI hs eJ) oF,λD Z U H P F o S hg k=>?_⟩;obtain⟨⟨d,Z'⟩,h1,g1⟩:=bnd hg;have vD:=hni Z _ h1;have hl:∃ds,Z'.getD j .none=.list ds/\ds.length<1000000/\o=.nx (Z'.set j (.list (ds++[d]))):=by
  dsimp only at g1
  cases hx:Z'.getD j .none with
  |list ds=>
   rw[hx]at g1;have wN:(if ds.length<1000000 then cz (Out.nx (Z'.set j (.list (ds++[d])))) else xn)=cz o:=g1;by_cases c:ds.length<1000000
   ·rw[aB c]at wN;exact⟨ds,rfl,c,(aH wN).symm⟩
   ·rw[aJ c]at wN;cases wN
  |_=>rw[hx]at g1;cases g1
 obtain⟨ds,hZ,hz,rfl⟩:=hl;obtain⟨v,fv,hv,ov,_⟩:=S.toE.get Dy;have qz:∃a xs,v=.ref a/\H a=cz (.lst xs):=by
  rw[<-vD]at ov;rw[hZ]at ov;simp only[Own]at ov;rcases ov with⟨_,hi,_⟩|⟨a,xs,_,_,rfl,h2,_⟩
  ·simp only[imm]at hi;cases hi
  ·exact⟨a,xs,rfl,h2⟩
 obtain⟨a,xs,rfl,ha⟩:=qz;refine⟨.ref a,hv,.inl ⟨rfl,xs,SqL.of ha⟩,qe Z U H P F d Z' _ S h1 λv1 H2 F2 S2=>?_⟩;have sG:dAt (.l t) (Z'.getD j .none) []=cz (.l t,.list ds):=by rw[hZ];rfl
 obtain⟨b',kn,e',vc,hl,S3,_⟩:=S2.put hm hv sG (show wk H2 (.ref a) [] (.ref a) from rfl);cases e'
 rw[hZ]at S3;refine⟨a,kn,v1,rfl,rfl,vc,?_,k U _ F2 S3⟩;rw[hl];exact jG hz (by rw[cX];decide)
def a8r(gO:i≠j):∀Z p,V3 i kt fk fe Z=cz p->p.2.getD j .none=Z.getD j .none:=λZ p h=>by
 obtain⟨k,_,g1⟩:=bnd h;obtain⟨d,_,g2⟩:=bnd g1;have key:∀x:D,(Z.set i x).getD j .none=Z.getD j .none:=λx=>by
  rw[af,af,bI gO]
 cases hx:Z.getD i .none with
 |dict kvs=>
  rw[hx]at g2;have ni:(if (s9 kt k&&decide (kvs.length<1000000)&&scal d)=yn then cz ((v6 kvs k).getD d,Z.set i (.dict (C4 kvs k d))) else xn)=cz p:=g2;by_cases c:(s9 kt k&&decide (kvs.length<1000000)&&scal d)=yn
  ·rw[aB c]at ni;cases ni;exact key _
  ·rw[aJ c]at ni;cases ni
 |_=>rw[hx]at g2;cases g2
def b9I(he:PXE X M e f t M1)(hs:eR e xn pos.line X.env=pure yp:=by rfl):PSX X w ML M (.Expr e pos) (b3v f) M1:=by
 obtain⟨te,pe,qe⟩:=he;refine .mk ⟨_,R8 pe hs,λD Z U H P F o S hg k=>?_⟩;obtain⟨⟨d,Z'⟩,h1,g1⟩:=bnd hg;cases g1
 refine qe Z U H P F d Z' _ S h1 λv H' F' S'=>?_
 obtain⟨l1,l2,S2⟩:=S';obtain⟨G,a1,a2,a3⟩:=S2.all;have wY:StAll X.K H' F' (.own t::M1) (d::Z') (cz v::U) G:=by simpa using a1
 simp only[StAll]at wY;obtain⟨d',r',o',s',fv,G2,e1,e2,rfl,_,h5⟩:=wY;cases e1
 cases e2
 exact k U H' F' ⟨⟨G2,h5,(bu.mp a2).2.1,λa ha=>a3 a (ah _ ha)⟩,S2.lst,S2.prot⟩
end
noncomputable def b3y(i:Nat)(f:EvE):EvS:=λZ=>(f Z).bind λd=>(asI d).bind λn=>(asI (Z.getD i .none)).bind λm=>cz (.nx (Z.set i (.int (m+n))))
section
variable {X:Cx}{M ML:List Md}{e:Expr}{f:EvE}{c:Cat}{u:Ty}{pos pos':fW}
def b9J(i:Nat)(hN:X.N.Nodup)(he:PX X M e f c)(hi:X.N[i]?=cz x:=by rfl)(hx:autoParam (Loc X.env.scope x) ZX._auto_1)(hm:M[i]?=cz (.own .i):=by rfl)(hf:autoParam (X.fn x=yn\/X.env.scope.names.lookup x=cz .local) ZW._auto_1) :
  PSX X u ML M (.AugAssign (.Name x pos') .Add e pos) (b3y i f) M:=by
 obtain⟨te,pe,qe⟩:=he.out;refine .mk ⟨_,b8z hN hi hx pe b8A hf,λD Z U H P F o S hg k=>?_⟩;obtain⟨d,h1,g1⟩:=bnd hg;obtain⟨n,h2,g2⟩:=bnd g1;obtain⟨m,h3,g3⟩:=bnd g2;cases g3
 cases M7 h2
 have h4:=M7 h3;obtain⟨v,fv,hv,ov,_⟩:=S.toE.get hm;rw[h4]at ov;obtain⟨_,_,dv⟩:=a2a ov;have ev:=dv.int_inv;refine⟨v,hv,qe Z U H P F _ _ S.toE h1 λw H1 e1 r1=>⟨m,n,ev,r1.den.int_inv,?_⟩⟩;have S1:=S.grow e1;have:=S1.set (u:=.i) (v:=.int (m+n)) (d:=.int (m+n)) (fp:=[]) hm (Same.refl _) (by simp only[Own,bx];exact⟨trivial,by simp only[imm],den_int⟩) bD λa ha=>(nomatch ha)
 rw[set_same hm]at this;exact k _ _ _ this
end
def intsOf:List D->Option (List Int)
 |[]=>cz []
 |.int i::r=>(intsOf r).map (i::·)
 |_=>xn
def Q4(i:Int)(r:List Int):Int:=r.foldl (λa b=>if b>a then b else a) i
noncomputable def a0k:List D->Option D
 |[.list ds]=>(intsOf ds).bind λis=>match is with
  |[]=>xn
  |i::r=>cz (.int (Q4 i r))
 |_=>xn
theorem C7:∀{ds:List D} {is:List Int},intsOf ds=cz is->ds=is.map .int
 |[],is,h=>by cases h;rfl
 |.int i::r,is,h=>by
  obtain⟨js,h1,rfl⟩:=eu.mp (show (intsOf r).map (i::·)=cz is from h);rw[ax,<-C7 h1]
 |.none::_,_,h|.bool _::_,_,h|.str _::_,_,h|.list _::_,_,h|.tuple _::_,_,h|.dict _::_,_,h=>nomatch h
def N1(is:List Int):intsOf (is.map .int)=cz is:=by
 induction is with
 |nil=>rfl
 |cons i is ih=>show (intsOf (is.map .int)).map (i::·)=_;rw[ih];rfl
theorem a9K:∀(r:List Int) (i:Int),i<=Q4 i r/\(∀x∈r,x<=Q4 i r)/\(Q4 i r=i\/Q4 i r∈r)
 |[],i=>⟨xb _,λx hx=>(nomatch hx),.inl rfl⟩
 |y::r,i=>by
  obtain⟨h1,h2,h3⟩:=a9K r (if y>i then y else i);have e:Q4 i (y::r)=Q4 (if y>i then y else i) r:=rfl;rw[e];refine⟨?_,λx hx=>?_,?_⟩
  ·by_cases c:y>i
   ·rw[aB c]at h1 ⊢;lia
   ·rw[aJ c]at h1 ⊢;exact h1
  ·rcases aD.mp hx with z|z
   ·subst z;by_cases c:x>i
    ·rw[aB c]at h1 ⊢;exact h1
    ·rw[aJ c]at h1 ⊢;lia
   ·exact h2 x z
  ·rcases h3 with z|z
   ·by_cases c:y>i
    ·rw[aB c]at z ⊢;exact .inr (by rw[z];exact aL)
    ·rw[aJ c]at z ⊢;exact .inl z
   ·exact .inr (aw _ z)
section
variable {X:Cx}
def a8s{ns:List Int}:∀{us:List ak},Vals (ns.map V.int) us->∃xs:List (Int×Tok),us=xs.map (λp=>g_ p.1 p.2)/\xs.map (·.1)=ns:=by
 induction ns with
 |nil=>intro us r;cases r;exact⟨[],rfl,rfl⟩
 |cons n ns ih=>
  intro us r;cases r with
  |cons r1 r2=>
   obtain⟨t,rfl⟩:=r1;obtain⟨xs,h1,h2⟩:=ih r2;exact⟨(n,t)::xs,by rw[ax,<-h1],by rw[ax,h2]⟩
def b1s(hc:X.calm=yn):CallR X (.builtin "max") (λxs H Q=>∃(p:av) (i:Int) (r:List Int),xs=[.ref p]/\SqX X.K H p ((i::r).map V.int)/\Q (.int (Q4 i r)) H):=by
 intro pins s U H xs us Q I rv h;obtain⟨p,i,r,rfl,hp,q⟩:=h;obtain⟨u,rfl,rx⟩:=vals1 rv;cases (show u=bM p from rx)
 obtain⟨_,its,n,yh,ho⟩:=hp.ok I;obtain⟨ys,h1,h2⟩:=a8s yh;have e1:its.toArray=intItems ys.toArray:=by rw[h1];simp[intItems]
 have hl:s.heap.IsList p (intItems ys.toArray):=⟨_,ho,rfl,n,by rw[<-e1]⟩;have hlen:ys.length=r.length+1:=by have:=dE d_ h2;simpa using this
 have num:∀j,j<ys.length->oV ys.toArray j=(i::r).getD j 0:=λj hj=>by
  have:(ys.map (·.1))[j]?=(i::r)[j]?:=by rw[h2]
  unfold oV;rw[af,<-this];simp
 refine max_intList (I.ok.hd hc) hl (by simp;lia) λv h' tk hv hk=>?_
 obtain⟨t,rfl⟩:=intItems_at hv;obtain⟨b1,b2⟩:=argBest_gt (oV ys.toArray) (ys.toArray.size-1);have kN:ys.toArray.size=r.length+1:=by simp[hlen]
 have hb:argBest (λi j=>decide (oV ys.toArray i>oV ys.toArray j)) (ys.toArray.size-1)<ys.length:=by lia
 have hm:oV ys.toArray (argBest (λi j=>decide (oV ys.toArray i>oV ys.toArray j)) (ys.toArray.size-1))=Q4 i r:=by
  obtain⟨g1,g2,g3⟩:=a9K r i;generalize argBest (λi j=>decide (oV ys.toArray i>oV ys.toArray j)) (ys.toArray.size-1)=a at b1 b2 hb;have up:oV ys.toArray a<=Q4 i r:=by
   rw[num a hb];have iW:(i::r).getD a 0∈i::r:=by
    rw[af,ab (by simp;lia)];exact dm _
   rcases aD.mp iW with z|z
   ·rw[z];exact g1
   ·exact g2 _ z
  have dn:Q4 i r<=oV ys.toArray a:=by
   have iW:Q4 i r∈i::r:=by
    rcases g3 with z|z
    ·rw[z];exact aL
    ·exact aw _ z
   obtain⟨j,hj,ej⟩:=jc.mp iW;have qA:j<ys.length:=by simp at hj;lia
   have:=b2 j (by lia);rw[num j qA,af,ab hj]at this;have e3:((i::r)[j]?).getD 0=(i::r)[j]:=by rw[ab hj];rfl
   simp only[Option.getD_some]at this;lia
  lia
 rw[hm];exact⟨.int (Q4 i r),H,I.kept (t':=tk) λb o e=>hk b o e,⟨t,rfl⟩,q⟩
def a9L(hc:X.calm=yn):a6v X (.builtin "max") a0k:=by
 refine⟨_,b1s hc,λxs H ds d Q hd hg q=>?_⟩
 match ds,hg with
 |[.list es],hg=>
  obtain⟨is,h1,g1⟩:=bnd (show (intsOf es).bind _=cz d from hg);cases is with
  |nil=>cases g1
  |cons i r=>
   cases g1
   obtain⟨v,rfl,h⟩:=a0S hd;obtain⟨a,ys,rfl,h2,h3⟩:=h.list_inv;have he:=C7 h1;subst he;have hv:ys=(i::r).map V.int:=by
    clear h1 hg hd h h2 q;generalize (i::r)=l at h3
    induction l generalizing ys with
    |nil=>exact h3.nil_inv
    |cons x l ih=>
     obtain⟨w,rs,rfl,k1,k2⟩:=h3.cons_inv;rw[k1.int_inv,ih _ k2];rfl
   subst hv;exact⟨a,i,r,rfl,h2,q _ (by simp only[imm]) λ_=>den_int⟩
 |[.none],hg|[.bool _],hg|[.str _],hg|[.dict _],hg|[.int _],hg|[.tuple _],hg=>cases hg
 |[],hg=>cases hg
 |d1::_::_,hg=>cases d1<;>cases hg
end
def Itv(K:ag)(a:av)(n:Nat):It:=
 ⟨λi H=>i<n/\∃xs,SqL K H a xs/\xs.length=n,λi H x H'=>H'=H/\∀xs,SqL K H a xs->xs[n-1-i]?=cz x,λi _=>n<=i⟩
def b3z(a it:av)(n:Nat):Turn P w K tg (Itv K a n) [it] it (λi h=>i<=n/\h.IsRevIter it a ((n:Int)-1-(i:Int))) where
 mem:=by simp
 obj:=λi h st b hb=>by
  have e:b=it:=by simpa using hb
  subst e;obtain⟨_,o,e,c,d⟩:=st;exact⟨o,e,λv z=>by rw[d]at z;cases z⟩
 keep:=λi h h' st k=>⟨st.1,st.2.at λo e=>k it (by simp) o e⟩
 item:=by
  intro X hP hw hK hc i pins s U H E I hf st hg;subst hP hw hK;obtain⟨hi,xs,hq,om⟩:=hg;obtain⟨its,rv,p,hz⟩:=I.list hq;have jk:n-1-i<xs.length:=by lia
  obtain⟨u,hu,ru⟩:=rv.get (ab jk);obtain⟨f0,f1,f2,f3,f4,f5⟩:=hf it (by simp);have e:(n:Int)-1-(i:Int)=((n-1-i:Nat):Int):=by lia
  have hit:=st.2;rw[e]at hit;refine wpAny_pyNext_rev_item hit p.isList (x:=u) (by simpa using hu) λh' cL sb=>?_
  have e2:((n-1-i:Nat):Int)-1=(n:Int)-1-((i+1:Nat):Int):=by lia
  rw[e2]at cL;have I1:Inv X pins U H {s with heap:=h'}:=I.turned (t':=s.toks) (λb o hb e=>(sb.2 b hb).trans e) f0 f1 f3 f4 f5;obtain⟨o,eo,c,d⟩:=id cL;exact⟨u,rfl,b2G (s:={s with heap:=h'}) eo c d (by decide) ⟨_,H,I1,ru,⟨rfl,λys hy=>by rw[I.list_inj hy hq];exact ab jk⟩,⟨by lia,cL⟩,λb hb=>(hf b hb).1⟩⟩
 done:=by
  intro X hP hw hK hc i pins s U H E I hf st hg;subst hP hw hK;obtain⟨f0,f1,f2,f3,f4,f5⟩:=hf it (by simp);have hn:n<=i:=hg;have e:(n:Int)-1-(i:Int)=-1:=by have:=st.1;lia
  have hit:=st.2;rw[e]at hit;exact wpAny_pyNext_rev_end (I.ok.hd hc) hit λh' eb=>⟨rfl,I.turned (t':=s.toks) (λb o hb e=>eb b o hb e) f0 f1 f3 f4 f5⟩
 self:=λ_ _ _ _ _ st h=>wpAny_pyIter_revIter st.2 h
noncomputable def iRv(a:EvE):EvA:=λZ=>(a Z).bind λd=>(asL d).bind λds=>cz ds.reverse
section
variable {X:Cx}{M:List Md}{a b e tg:Expr}{fa fb:EvE}{ca cb:Cat}{pos p apos cP:fW}
def c1J(K:ag)(ta:TA):TI:=λU H R=>ta U H λvs H1=>∃a xs,vs=[.ref a]/\SqL K H1 a xs/\R (Itv K a xs.length) H1
open PyProof.Rows in
def b9K(hg:Gl X "reversed")(hm:X.mg "reversed"=xn)(ha:PA X [a] ta)(hs:au [a] X.env=[(yp,cK a X.env)]:=by rfl):PI X tg (.Call (.Name "reversed" p) [a] [] pos) (c1J X.K ta):=by
 intro pins s U H R I h;refine Call_ (a0u I hg hm PyProof.Rows.Boot.«reversed» (gw (L2.thn (ha pos pins s U H _ I h) λus s1 ⟨vs,H1,I1,r1,q1⟩=>?_) hs rfl));obtain⟨l,xs,e,hq,q⟩:=q1;subst e;cases r1 with
 |cons r rr=>
  cases rr
  cases (show _=bM l from r)
  obtain⟨its,rv,pl,hz⟩:=I1.list hq;have hlen:its.toArray.size=xs.length:=by rw[be];exact rv.length.symm
  refine call_reversed_list pl.isList ?_;refine wpAny_pyIter_revIter (it:=s1.heap.objs.size) (l:=l) (i:=(its.toArray.size:Int)-1) ⟨_,bh _ rfl,rfl,rfl⟩ ?_;refine⟨s1.heap.objs.size,[s1.heap.objs.size],_,_,H1,rfl,I1.kept (t':=s1.toks) λb o e=>aG _ e,b3z l _ xs.length,⟨cG _,?_⟩,λb hb=>?_,q⟩
  ·have e0:(xs.length:Int)-1-((0:Nat):Int)=(its.toArray.size:Int)-1:=by rw[hlen];lia
   rw[e0];exact⟨_,bh _ rfl,rfl,rfl⟩
  ·have e:b=s1.heap.objs.size:=by simpa using hb
   subst e;exact I1.fpOk (ay _) (I1.hok.fresh (ay _))
def b1t{K:ag}{a:av}{xs:List V}:Walks (Itv K a xs.length) (λH=>SqL K H a xs) xs.reverse where
 go:=λi H h hi=>⟨by simpa using hi,xs,h,rfl⟩
 stop:=λi H h hi=>by show xs.length<=i;simpa using hi
 yld:=λi H x H' h hi y=>by
  refine⟨y.1,?_⟩;have mO:i<xs.length:=by simpa using hi
  rw[List.getElem?_reverse mO];exact y.2 xs h
theorem X3:∀{ds:List D} {xs:List V},DenAll K H xs ds->DenAll K H xs.reverse ds.reverse
 |[],_,h=>by rw[h.nil_inv];exact denAll_nil
 |d::ds,_,h=>by
  obtain⟨v,r,rfl,h1,h2⟩:=h.cons_inv;rw[kg,kg];exact (X3 h2).append (denAll_cons h1 denAll_nil)
def b6v(hm:X.mg "reversed"=xn)(h:PX X M a fa ca)(hc:frozen ca:=by trivial)(hg:Gl X "reversed":=by rfl)(he:au [a] X.env=[(yp,cK a X.env)]:=by rfl)(qD:au [a] X.env=(yp,cK a X.env)::au [] X.env:=by rfl) :
  PIX X M tg (.Call (.Name "reversed" p) [a] [] pos) (iRv fa):=by
 obtain⟨t,p,q⟩:=h.out;refine⟨_,b9K hg hm (l0 p p9 qD) he,λZ U H P F ds R S hf k=>?_⟩;obtain⟨d,h1,g1⟩:=bnd hf;obtain⟨es,h2,g2⟩:=bnd g1;cases Q2 h2
 cases g2
 refine q Z U H P F _ _ S h1 λv H1 e1 r1=>?_
 obtain⟨aa,xs,rfl,k1,k2⟩:=(a0T hc r1).list_inv;exact⟨aa,xs,rfl,(O7 k1 j9).l,k _ xs.reverse _ H1 e1 b1t (λH2 e2=>(O7 k1 e2).l) (X3 k2)⟩
def a3p:D->D->Option D
 |.list ds,y=>if aY ds&&y.canLay0&&decide (y.depth<=60) then cz (.int (ds.countP λd=>aF d y)) else xn
 |_,_=>xn
def b9L(K:ag):V->List V->Hp->VK->Prop:=λx xs H Q=>∃p ys ds y d,x=.ref p/\xs=[y]/\SqX K H p ys/\DenAll K H ys ds/\Den K H y d/\aY ds=yn/\d.canLay0=yn/\d.depth<=60/\Q (.int (ds.countP λe=>aF e d)) H
def a5J(r:iZ h us ds as):∀{j:Nat} {u:ak},us[j]?=cz u->∃d bs,ds[j]?=cz d/\Reads h u d bs:=by
 induction ds generalizing us as with
 |nil=>intro j u hu;cases r;simp at hu
 |cons d ds ih=>
  intro j u hu;cases r with
  |cons r1 r2=>
   cases j with
   |zero=>cases hu;exact⟨_,_,rfl,r1⟩
   |succ j=>exact ih r2 (by simpa using hu)
open Classical in
noncomputable def b6w(h:cS)(d:D)(u:ak):Bool:=decide (∃d' bs,Reads h u d' bs/\d'.canLay0=yn/\aF d' d=yn)
def a9M{d e:D}(r:Reads h u e bs)(hl:e.canLay0=yn):b6w h d u=aF e d:=by
 unfold b6w;cases q:aF e d with
 |true=>exact @aW _ (_) ⟨e,bs,r,hl,q⟩
 |false=>
  refine @bg _ (_) ?_;rintro⟨d',Fc,r1,r2,r3⟩;rw[SeqAt.Reads.unique d' e u _ _ r2 r1 r,q]at r3;cases r3
def b3A(hu:X.A.units+64<dQ):MtR X "list.count" (b9L X.K):=by
 intro pins s U H x xs v us Q I rx rv h;obtain⟨p,ys,ds,y,d,rfl,rfl,hp,Ef,hd,c1,c2,c3,q⟩:=h;cases (show v=bM p from rx)
 obtain⟨w,rfl,rw⟩:=rv.one;obtain⟨_,its,n,yh,ho⟩:=hp.ok I;obtain⟨as,ra⟩:=DenAll.reads I ds c1 Ef yh;obtain⟨bs,rb⟩:=Den.reads I d c2 hd rw;have lay:∀{l:List D} {e:D},aY l=yn->e∈l->e.canLay0=yn:=by
  intro l
  induction l with
  |nil=>intro e _ he;cases he
  |cons x l ih=>
   intro e hl he;simp only[aY,aC]at hl;rcases aD.mp he with z|z
   ·rw[z];exact hl.1
   ·exact ih hl.2 z
 have cnt:∀{us:List ak} {ds:List D} {as:List av},iZ s.heap us ds as->aY ds=yn->us.countP (b6w s.heap d)=ds.countP λe=>aF e d:=by
  intro us ds
  induction ds generalizing us with
  |nil=>intro as r _;cases r;rfl
  |cons d0 ds ih=>
   intro as r hl;simp only[aY,aC]at hl;cases r with
   |cons r1 r2=>rw[Fk,Fk,ih r2 hl.2,a9M r1 hl.1]
 refine call_meets sO ⟨_,ho,rfl⟩ PySem.F.entry_list_count (PySem.F.args_list_count_2 _ _) (SeqAt.list_countAt p its.toArray n xn #[] w (b6w s.heap d)) ⟨ho,λu sv=>?_,⟨.int _,H,I.tok _,⟨_,rfl⟩,?_⟩⟩
 ·obtain⟨j,hj⟩:=c_.mp (show u∈its by simpa using sv);obtain⟨e,Fc,he,re⟩:=a5J ra hj;have hle:=lay c1 (bt he);rw[a9M re hle];exact lY e d X.A.in1 s _ _ _ _ re rb hle c2 (by have:=Nat.min_le_right e.depth d.depth;show X.A.units+1+_<_;lia)
 ·have:=cnt ra c1;simp only[xW];rw[this];exact q
def b3B(hu:X.A.units+64<dQ)(ha:PX X M a fa ca)(hb:PX X M b fb cb)(fJ:dY a "count" X.env (cK a X.env)=cK a X.env:=by rfl)
  (iK:((cM cP (au [b] X.env)).all (λx=>!x.1)&&(eX cP (dD [] X.env)).all (λx=>x.1.isSome)
   && decide (([b]:List Expr).length+([]:List eO).length+(if ([]:List eO).isEmpty then 0 else 1)<30))=yn:=by rfl)
  (fI:(apos.endLine==cP.line)=yn:=by rfl) (hs:au [b] X.env=(yp,cK b X.env)::au [] X.env:=by rfl) (eJ:(cM cP (au [] X.env)).any (·.1)=yp:=by rfl) :
  PX X M (.Call (.Attribute a "count" apos) [b] [] cP) (e2 a3p fa fb) (.new .i):=by
 obtain⟨ta,pa,qa⟩:=ha.out;obtain⟨tb,pb,qb⟩:=hb.out;refine .mk ⟨_,a4F eS sO PySem.F.type_list_count (b3A hu) pa (l0 pb p9 hs) fJ iK fI hs eJ,λZ U H P F d Q S hf q=>?_⟩;obtain⟨x,y,h1,h2,h3⟩:=D7 hf;have hx:∃ds,x=.list ds/\(aY ds&&y.canLay0&&decide (y.depth<=60))=yn/\d=.int (ds.countP λd=>aF d y):=by
  cases x with
  |list ds=>
   have qJ:(if (aY ds&&y.canLay0&&decide (y.depth<=60))=yn then cz (aK (ds.countP λd=>aF d y)) else xn)=cz d:=h3;by_cases c:(aY ds&&y.canLay0&&decide (y.depth<=60))=yn
   ·rw[aB c]at qJ;exact⟨ds,rfl,c,(aH qJ).symm⟩
   ·rw[aJ c]at qJ;cases qJ
  |_=>cases h3
 obtain⟨ds,rfl,c,rfl⟩:=hx;rw[aC,aC]at c;refine qa Z U H P F _ _ S h1 λv H1 e1 r1=>?_
 obtain⟨p,xs,rfl,k1,k2⟩:=r1.den.list_inv;refine⟨.inl ⟨rfl,xs,k1.l⟩,qb Z U H1 P F y _ (S.grow e1) h2 λw H2 e2 r2=>?_⟩;exact⟨p,xs,ds,w,y,rfl,rfl,O7 k1 e2,k2.up e2,r2.den,c.1.1,c.1.2,bz c.2,q _ H2 (e1.trans e2) (O1 (by simp only[imm]) den_int (S.lst' (e1.trans e2)))⟩
end
noncomputable def PXL(X:Cx)(M:List Md)(i:Nat)(e:Expr)(f:EvE)(c:Cat):Prop:=
 ∃t,PE X e t/\∀(Z:List D) (U:L2.St) (H P:Hp) (F:List av) (d:D) (v:V) (Q:VK),StE X.K M Z U H P F->U[i]?=cz (cz v)->Den X.K H v (Z.getD i .none)->f Z=cz d->(∀v H',Same H H'->ResR X.K c H H' F v d->Q v H')->t U H Q
noncomputable def b6x(X:Cx)(M:List Md)(i:Nat)(es:List Expr)(f:EvA):Prop:=
 ∃t,PA X es t/\∀(Z:List D) (U:L2.St) (H P:Hp) (F:List av) (ds:List D) (v:V) (Q:List V->Hp->Prop),StE X.K M Z U H P F->U[i]?=cz (cz v)->Den X.K H v (Z.getD i .none)->f Z=cz ds->(∀vs H',Same H H'->DenAll X.K H' vs ds->Q vs H')->t U H Q
section
variable {X:Cx}{M M1 M2 ML M':List Md}{a e e0:Expr}{es:List Expr}{f fa:EvE}{c ca:Cat}{i j:Nat}{u w t:Ty}{x y:bE}{pos p:fW}
def PXL.of(h:PX X M e f c):PXL X M i e f c:=by
 obtain⟨t,p,q⟩:=h.out;exact⟨t,p,λZ U H P F d v Q S _ _ hf k=>q Z U H P F d Q S hf k⟩
def a6Q(hN:X.N[i]?=cz x:=by rfl)(hv:autoParam (Vis X.env.scope x) ZY._auto_1)(hd:autoParam ((x==("__debug__":bE))=yp) ZV._auto_1)
  (iC:autoParam ((x==("__classdict__":bE))=yp) ZV._auto_1):PXL X M i (.Name x pos) (a6 i) .tmp:=by
 refine⟨_,y8 hN hv hd iC,λZ U H P F d v Q S hs zy hf k=>?_⟩;cases hf
 exact⟨v,hs,k v H (Same.refl _) zy⟩
def a6R:b6x X M i [] c6:=⟨_,p9,λZ U H P F ds v Q S _ _ hf q=>by cases hf;exact q [] H (Same.refl _) denAll_nil⟩
def Z6(ha:PXL X M i a fa ca)(hr:b6x X M i es fr)(hs:au (a::es) X.env=(yp,cK a X.env)::au es X.env:=by rfl):b6x X M i (a::es) (a7 fa fr):=by
 obtain⟨ta,pa,qa⟩:=ha;obtain⟨tr,pr,qr⟩:=hr;refine⟨_,l0 pa pr hs,λZ U H P F ds v Q S hv hd hf q=>?_⟩;obtain⟨x,h1,hf⟩:=bnd hf;obtain⟨xs,h2,hf⟩:=bnd hf;cases hf
 exact qa Z U H P F _ v _ S hv hd h1 λv1 H1 e1 r1=>qr Z U H1 P F _ v _ (S.grow e1) hv (hd.up e1) h2 λvs H2 e2 r2=>q (v1::vs) H2 (e1.trans e2) (denAll_cons (r1.den.up e2) r2)
def a6S{k n:Nat}{ps:List bE}{m:List D->Option D}{f:EvA}(W:Has X.prog X.w X.K X.mg X.base x k ps (spD X.K n m u))(hr:Room k X.A)(h:b6x X M i (e0::es) f)(hu:u.shut=yn:=by rfl)(hl:(e0::es).length=n:=by rfl)(hfl:∀Z ds,f Z=cz ds->ds.length=(e0::es).length)
  (hg:Gl X x:=by rfl) (mB:autoParam ((x==("__debug__":bE))=yp) ZV._auto_1) (he:au (e0::es) X.env=(yp,cK e0 X.env)::au es X.env:=by rfl) (gT:(cM pos (au es X.env)).any (·.1)=yp:=by rfl) :
  PXL X M i (.Call (.Name x p) (e0::es) [] pos) (eCl m f) (.new u):=by
 obtain⟨t,pa,qa⟩:=h;refine⟨_,b2Q W hr pa hg mB he gT,λZ U H P F d v Q S hv zy hf q=>?_⟩;obtain⟨ds,h1,hf⟩:=bnd hf;refine qa Z U H P F ds v _ S hv zy h1 λvs H1 e1 r1=>?_
 show spD X.K n m u (vs++[]) H1 Q E0;rw[bb];refine⟨ds,d,by rw[r1.length,hfl Z ds h1,hl],r1,hf,λv H' fp e o nd fr=>q v H' (e1.trans e) ⟨fp,o.shut_out (λa ha=>?_) u hu,nd,λa ha=>e1.free (fr a ha)⟩⟩;rcases ao.mp ha with z|z
 ·exact o.lst u a z
 ·exact S.lst' (e1.trans e) a z
noncomputable def Z7(j i:Nat)(f:EvE):EvS:=λZ=>match Z.getD j .none with
 |.list ds=>if ds.length<1000000 then (f (Z.set j (.list (ds++[Z.getD i .none])))).bind λd=>cz (.nx ((Z.set j (.list (ds++[Z.getD i .none]))).set i d)) else xn
 |_=>xn
def b1u(j i:Nat){apos cP nH:fW}(gO:i≠j)(xK:X.N.Nodup)(xI:X.N[j]?=cz x:=by rfl)(xJ:X.N[i]?=cz y:=by rfl)(hm:M[j]?=cz (.own (.l t)):=by rfl)(vP:M[i]?=cz (.own t):=by rfl)
  (hL:PXL X (M.set i .dead) i e f (.new t)) (jK:PSsX X w ML M oz g M')
  (yK:autoParam (Vis X.env.scope x) ZY._auto_1) (zB:autoParam ((x==("__debug__":bE))=yp) ZV._auto_1) (zE:autoParam ((x==("__classdict__":bE))=yp) ZV._auto_1)
  (tz:autoParam (Vis X.env.scope y) ZY._auto_1) (nO:autoParam ((y==("__debug__":bE))=yp) ZV._auto_1) (zF:autoParam ((y==("__classdict__":bE))=yp) ZV._auto_1)
  (Dz:autoParam (Loc X.env.scope y) ZX._auto_1) (wc:autoParam (X.fn y=yn\/X.env.scope.names.lookup y=cz .local) ZW._auto_1)
  (fJ:dY (.Name x px) "append" X.env (cK (.Name x px) X.env)=cK (.Name x px) X.env:=by rfl)
  (iK:((cM cP (au [.Name y py] X.env)).all (λx=>!x.1)&&(eX cP (dD [] X.env)).all (λx=>x.1.isSome)
   && decide (([.Name y py]:List Expr).length+([]:List eO).length+(if ([]:List eO).isEmpty then 0 else 1)<30))=yn:=by rfl)
  (fI:(apos.endLine==cP.line)=yn:=by rfl) (hs:au [.Name y py] X.env=(yp,cK (.Name y py) X.env)::au [] X.env:=by rfl) (eJ:(cM cP (au [] X.env)).any (·.1)=yp:=by rfl)
  (oF:eR (.Call (.Attribute (.Name x px) "append" apos) [.Name y py] [] cP) xn pos.line X.env=pure yp:=by rfl) (tF:eR e (cz (.Name y pz)) nH.line X.env=pure yp:=by rfl) :
  PSsX X w ML M (.Expr (.Call (.Attribute (.Name x px) "append" apos) [.Name y py] [] cP) pos::.Assign [.Name y pz] e nH::oz) (f7 (Z7 j i f) g) M':=by
 obtain⟨te,pe,qe⟩:=hL;obtain⟨tr,pr,qr⟩:=jK.out;refine .mk ⟨_,a0L (R8 (a4F eS kB kA Y7 (y8 xI yK zB zE) (l0 (y8 xJ tz nO zF) p9 hs) fJ iK fI hs eJ) oF) (a0L (a7K xK xJ Dz pe tF wc) pr),λD Z U H P F o S hg k=>?_⟩;obtain⟨o1,h1,g1⟩:=bnd hg;have hl:∃ds d,Z.getD j .none=.list ds/\ds.length<1000000/\f (Z.set j (.list (ds++[Z.getD i .none])))=cz d/\o1=.nx ((Z.set j (.list (ds++[Z.getD i .none]))).set i d):=by
  unfold Z7 at h1;cases hx:Z.getD j .none with
  |list ds=>
   rw[hx]at h1;have nE:(if ds.length<1000000 then (f (Z.set j (.list (ds++[Z.getD i .none])))).bind λd=>cz (Out.nx ((Z.set j (.list (ds++[Z.getD i .none]))).set i d)) else xn)=cz o1:=h1;by_cases c:ds.length<1000000
   ·rw[aB c]at nE;obtain⟨d,z1,z2⟩:=bnd nE;exact⟨ds,d,rfl,c,z1,(aH z2).symm⟩
   ·rw[aJ c]at nE;cases nE
  |_=>rw[hx]at h1;cases h1
 obtain⟨ds,d,hZ,hz,Ea,rfl⟩:=hl;obtain⟨vj,fj,tx,yl,_⟩:=S.toE.get hm;have qz:∃a xs,vj=.ref a/\H a=cz (.lst xs):=by
  rw[hZ]at yl;simp only[Own]at yl;rcases yl with⟨_,hi,_⟩|⟨a,xs,_,_,rfl,h2,_⟩
  ·simp only[imm]at hi;cases hi
  ·exact⟨a,xs,rfl,h2⟩
 obtain⟨a,xs,rfl,ha⟩:=qz;obtain⟨vi,rH,S1⟩:=S.pend.move vP;have uH:(M.set i .dead)[j]?=cz (.own (.l t)):=by rw[bI gO];exact hm
 have sG:dAt (.l t) (Z.getD j .none) []=cz (.l t,.list ds):=by rw[hZ];rfl
 obtain⟨b',kn,e',vc,hlen,S3,_⟩:=S1.put uH tx sG (show wk H (.ref a) [] (.ref a) from rfl);cases e'
 rw[hZ]at S3;refine⟨.ref a,tx,.inl ⟨rfl,xs,SqL.of ha⟩,vi,rH,a,kn,vi,rfl,rfl,vc,by rw[hlen];exact jG hz (by rw[cX];decide),?_⟩;have Ag:StR X.K (M.set i .dead) (Z.set j (.list (ds++[Z.getD i .none]))) U (upd H a (.lst (kn++[vi]))) P F:=S3;have kT:Den X.K (upd H a (.lst (kn++[vi]))) vi (Z.getD i .none):=by
  obtain⟨v2,f2,uD,o2,_⟩:=Ag.toE.get uH;rw[tx]at uD;cases uD
  have mf:∃x,Z[j]?=cz x:=by
   obtain⟨G,q1,_⟩:=S.all;obtain⟨d0,_,_,_,_,z1,_⟩:=q1.at_ hm;exact⟨d0,z1⟩
  obtain⟨x0,rG⟩:=mf;have rO:j<Z.length:=(aM.mp rG).1;have DT:(Z.set j (.list (ds++[Z.getD i .none]))).getD j .none=.list (ds++[Z.getD i .none]):=by
   rw[af,dO rO];rfl
  rw[DT]at o2;simp only[Own]at o2;rcases o2 with⟨_,hi,_⟩|⟨a2,ys,es,fs,ea,h2,ed,_,la⟩
  ·simp only[imm]at hi;cases hi
  ·cases ea
   cases ed
   rw[f8]at h2;cases h2
   have pI:kn.length=ds.length:=hlen;obtain⟨v3,f3,_,_,e3,d3,_⟩:=la.at_ (k:=ds.length) (d:=Z.getD i .none) (by simp);rw[<-pI,cu (ay _),jE]at e3;cases e3
   exact d3.den
 have DU:(Z.set j (.list (ds++[Z.getD i .none]))).getD i .none=Z.getD i .none:=by
  rw[af,af,bI (cR gO)]
 refine qe _ U _ P F d vi _ Ag.toE rH (by rw[DU];exact kT) Ea λv4 H4 e4 r4=>?_
 obtain⟨fp,o4,n4,f4⟩:=r4;have Dx:(M.set i .dead)[i]?=cz .dead:=by
  have mh:i<M.length:=(aM.mp vP).1;rw[dO mh]
 have S5:=Ag.set Dx e4 o4 n4 f4;rw[ui,set_same vP]at S5;exact qr D _ _ _ P _ o S5 g1 k
end
def StR.freezeL{Z:List D}(h:StR K M Z U H P F)(hm:M[i]?=cz (.own (.l u))):∃F',StR K (M.set i (.own (.l .f))) Z U H P F':=by
 obtain⟨G,h1,h2,h3⟩:=h.all;obtain⟨d,o,f,pre,post,e1,e2,⟨v,rfl,e3⟩,e4,e5⟩:=h1.at_ hm;rw[e4]at h2;simp only[Own]at e3;rcases e3 with⟨rfl,hi,hd⟩|⟨a,xs,ds,fs,rfl,ha,rfl,rfl,la⟩
 ·have q:=e5 H F (.own (.l .f)) d (cz v) [] (λ_ _=>rfl) (λ_ _ z=>z) ⟨v,rfl,by simp only[Own];exact .inl ⟨trivial,hi,hd⟩⟩;rw[set_same e1,set_same e2]at q;exact⟨F,⟨_,q,h2,λa ha=>h3 a (by rw[e4];exact ha)⟩,h.lst,h.prot⟩
 ·have jB:∀a∈F.filter (λa=>decide (a∉fs)),a∈F:=λa ha=>(fF.mp ha).1
  have tK:∀a∈fs,a∉F.filter (λa=>decide (a∉fs)):=λa ha z=>absurd ha (bz (fF.mp z).2)
  have hc:Same (cut H F) (cut H (F.filter (λa=>decide (a∉fs)))):=D6 jB;have CH:ListAll (Own K H (F.filter (λa=>decide (a∉fs))) .f) xs ds []:=by
   have key:∀{ds:List D} {xs:List V} {gs:List av},ListAll (Own K H F u) xs ds gs->(∀a∈gs,a∈fs)->ListAll (Own K H (F.filter (λa=>decide (a∉fs))) .f) xs ds []:=by
    intro ds
    induction ds with
    |nil=>intro xs gs l _;obtain⟨rfl,rfl⟩:=l.nil_inv;exact l8
    |cons d ds ih=>
     intro xs gs l hs;obtain⟨v,r,f,g,rfl,rfl,l1,l2⟩:=l.cons_inv;exact k9 (f:=[]) (g:=[]) (l1.freeze jB λa ha=>tK a (hs a (aj _ ha))) (ih l2 λa ha=>hs a (ah _ ha))
   exact key la λ_ z=>z
  have q:=e5 H _ (.own (.l .f)) (.list ds) (cz (.ref a)) [a] (λ_ _=>rfl) hc ⟨.ref a,rfl,by simp only[Own];exact .inr ⟨a,xs,ds,[],rfl,ha,rfl,rfl,CH⟩⟩;rw[set_same e1,set_same e2]at q;have mw:(pre++([a]++post)).Nodup:=by
   refine List.Nodup.sublist ?_ h2;refine jy (fM _) (jy ?_ (fM _));exact List.Sublist.cons₂ _ (Fi _)
  have Dr:∀b∈pre++([a]++post),b∉fs:=by
   intro b hb hf;have e:pre++(a::fs++post)=pre++([a]++(fs++post)):=rfl;rw[e]at h2;rcases ao.mp hb with z|z
   ·exact (bu.mp h2).2.2 b z b (by simp[hf]) rfl
   ·have mS:=(bu.mp h2).2.1;rcases ao.mp z with y|y
    ·rw[aq.mp y]at hf;exact (bu.mp mS).2.2 a (by simp) a (by simp[hf]) rfl
    ·have qJ:=(bu.mp mS).2.1;exact (bu.mp qJ).2.2 b hf b y rfl
  refine⟨_,⟨_,q,mw,λb hb=>fF.mpr ⟨h3 b ?_,aW (Dr b hb)⟩⟩,λb hb=>h.lst b (jB b hb),h.prot.trans hc⟩;rw[e4];rcases ao.mp hb with z|z
  ·exact aj _ z
  ·refine ah _ ?_;rcases ao.mp z with y|y
   ·rw[aq.mp y];simp
   ·exact ah _ y
def a9N{M:List Md}(i:Nat)(h:M[i]?=cz (.own (.l u)):=by rfl):Wk M (M.set i (.own (.l .f))):=λK Z U H P F S=>S.freezeL h
def b6y{X:Cx}{pins:List (av×fY)}{U:L2.St}{H:Hp}{s:ar}{h':cS}{t':Nat}{ch:List av}{T:av}{xs:List V}(I:Inv X pins U H s)(k:∀b o,b∉ch->s.heap.get? b=cz o->h'.get? b=cz o)
  (hf:∀b∈ch,a4j X pins H b) (hT:s.heap.objs.size<=T) (new:ObjOk X.prog X.w (upd H T (.tup xs)) h' T (.tup xs)):Inv X pins U (upd H T (.tup xs)) {s with heap:=h',toks:=t'}:=by
 have hn:H T=xn:=I.hok.fresh hT;have neT:∀b o,s.heap.get? b=cz o->b≠T:=λb o e z=>absurd (bo (aU e) (by rw[z];exact hT)) (dR _)
 have qd:∀b u,H b=cz u->b∉ch:=λb u e hb=>by rw[(hf b hb).1]at e;cases e
 refine I.step (g':=s.gens) (d':=s.drawn) (ch:=ch) (λb hb=>⟨(hf b hb).2.2.2.1,(hf b hb).2.1,(hf b hb).2.2.2.2.1,(hf b hb).2.2.2.2.2⟩) (λb o _ _ hc e _=>k b o hc e) (λb o _ _ hc e _=>⟨o.slots,k b o hc e⟩) (λb o _ e n=>by rw[c7 (neT b o e)];exact n)
  (λb o hc e=>⟨o,k b o hc e⟩) (λb ys e=>by rw[c7 (i6 e hn)];exact e) (λb o u e=>by rw[c7 (i6 e hn)];exact e) (λb ps e=>⟨#[],by rw[c7 (i6 e hn),e];simp⟩) (λm hm=>?_) (λb u e=>?_) I.bare
 ·obtain⟨o,es,ep,ho,r⟩:=hm;exact⟨o,es,ep,k _ o (λhb=>(hf _ hb).2.1 rfl) ho,r⟩
 ·by_cases hb:b=T
  ·subst hb;rw[f8]at e;cases e;exact new
  ·rw[c7 hb]at e;refine (I.hok b u e).stay (λc v hc q=>k c v ?_ q) (λc q=>by rw[c7 (i6 q hn)];exact q) λc ys q=>by rw[c7 (i6 q hn)];exact q
   rcases hc with z|z
   ·rw[z];exact qd b u e
   ·exact qd c _ z
def b6z{X:Cx}{pins:List (av×fY)}{U:L2.St}{H:Hp}{s:ar}{h':cS}{t':Nat}{ch:List av}(I:Inv X pins U H s)(k:∀b o,b∉ch->s.heap.get? b=cz o->h'.get? b=cz o)
  (hf:∀b∈ch,a4j X pins H b):Inv X pins U H {s with heap:=h',toks:=t'}:=by
 have qd:∀b u,H b=cz u->b∉ch:=λb u e hb=>by rw[(hf b hb).1]at e;cases e
 refine I.step (g':=s.gens) (d':=s.drawn) (ch:=ch) (λb hb=>⟨(hf b hb).2.2.2.1,(hf b hb).2.1,(hf b hb).2.2.2.2.1,(hf b hb).2.2.2.2.2⟩) (λb o _ _ hc e _=>k b o hc e) (λb o _ _ hc e _=>⟨o.slots,k b o hc e⟩) (λb o _ e n=>n)
  (λb o hc e=>⟨o,k b o hc e⟩) (λb ys e=>e) (λb o u e=>e) (λb ps e=>⟨#[],by rw[e];simp⟩) (λm hm=>?_) (λb u e=>?_) I.bare
 ·obtain⟨o,es,ep,ho,r⟩:=hm;exact⟨o,es,ep,k _ o (λhb=>(hf _ hb).2.1 rfl) ho,r⟩
 ·refine (I.hok b u e).stay (λc v hc q=>k c v ?_ q) (λc q=>q) λc ys q=>q
  rcases hc with z|z
  ·rw[z];exact qd b u e
  ·exact qd c _ z
def Ite(K:ag)(a:av):It:=
 ⟨λi H=>∃xs x,SqL K H a xs/\xs[i]?=cz x,λi H x H'=>∃T y,H T=xn/\H'=upd H T (.tup [.int i,y])/\x=.ref T/\∀xs,SqL K H a xs->xs[i]?=cz y,λi H=>∃xs,SqL K H a xs/\xs.length<=i⟩
def b1v{P:bB}{w:bZ}{K:ag}{elts:List Expr}{kk:Nat}{jg:fW}(a e it:av)(Ed:e≠it):Turn P w K (.Tuple elts kk jg) (Ite K a) [e,it] e (λi h=>(∃old,IsEnum h e it i old)/\h.IsListIter it a i) where
 mem:=by simp
 obj:=λi h st b hb=>by
  obtain⟨⟨old,he⟩,o,eo,c,d⟩:=st;rcases aD.mp hb with rfl|hb
  ·exact⟨_,he,λv z=>by cases z⟩
  ·cases aq.mp hb
   exact⟨o,eo,λv z=>by rw[d]at z;cases z⟩
 keep:=λi h h' st k=>by
  obtain⟨⟨old,he⟩,hit⟩:=st;exact⟨⟨old,k e (by simp) _ he⟩,hit.at λo x=>k it (by simp) o x⟩
 item:=by
  intro X hP hw hK hc i pins s U H E I hf st hg;subst hP hw hK;obtain⟨xs,x,hq,hx⟩:=hg;obtain⟨its,rv,p,hz⟩:=I.list hq;obtain⟨u,hu,ru⟩:=rv.get hx;obtain⟨⟨old,he⟩,hit⟩:=st;have hle:a≠e:=λz=>by
   obtain⟨o,eo,c,_⟩:=p.isList;rw[z,he]at eo;cases eo
   exact absurd (show fK "enumerate"=fK "list" from c) (by decide)
  have DE:a≠it:=λz=>by
   obtain⟨o,eo,c,_⟩:=p.isList;obtain⟨o2,EN,c2,_⟩:=hit;rw[z,EN]at eo;cases eo
   rw[c2]at c;exact absurd c (by decide)
  have W:=WalksT.enumerate (prog:=X.prog) (w:=X.w) (A:=X.A) (I.ok.hd hc) e it a Ed hle DE its.toArray;have mh:i<its.toArray.size:=by
   have:=(aM.mp hu).1;simpa using this
  refine W.item i s _ E mh ⟨⟨old,he⟩,hit,p.isList⟩ λT vals h' tk hP hT yN wI hk=>⟨.ref T,rfl,W.go elts kk jg i T {s with heap:=h',toks:=tk} _ E wI λh2 vC vV=>?_⟩
  obtain⟨t,y,hy,rfl⟩:=hP;have ey:y=u:=by
   have h1:its[i]?=cz y:=by simpa using hy
   rw[hu]at h1;exact (aH h1).symm
  subst ey;have Bt:=W.apart i T h' wI;obtain⟨oT,eT,cT⟩:=yN;have hn:H T=xn:=I.hok.fresh hT;have new:ObjOk X.prog X.w (upd H T (.tup [.int i,x])) h2 T (.tup [.int i,x]):=by
   refine⟨by rw[cX];show 2<=_;decide,[.int i t,y],?_,oT,vV T oT Bt eT,cT⟩;exact .cons ⟨t,rfl⟩ (.cons ru .nil)
  refine⟨.ref T,upd H T (.tup [.int i,x]),b6y (s:=s) (t':=tk) I (λb o hb q=>vV b o hb (hk b o hb q)) hf hT new,rfl,⟨T,x,hn,rfl,rfl,λys vq=>by rw[I.list_inj vq hq];exact hx⟩,⟨vC.1,vC.2.1⟩,λb hb=>?_⟩;rw[c7 (λz=>Bt (by rw[<-z];exact hb))];exact (hf b hb).1
 done:=by
  intro X hP hw hK hc i pins s U H E I hf st hg;subst hP hw hK;obtain⟨xs,hq,hx⟩:=hg;obtain⟨its,rv,p,hz⟩:=I.list hq;have hl:=rv.length;obtain⟨⟨old,he⟩,hit⟩:=st;exact wpAny_pyNext_enum_end (I.ok.hd hc) he hit p.isList (gd (by simp;lia)) λh' hx=>⟨rfl,b6z (t':=s.toks) I (λb o hb y=>hx b o (λz=>hb (by simp[z])) y) hf⟩
 self:=λ_ _ _ _ _ st h=>by
  obtain⟨⟨old,he⟩,_⟩:=st;exact wpAny_pyIter_enum he h
def F9:List D->Nat->List D
 |[],_=>[]
 |d::ds,k=>.tuple [.int k,d]::F9 ds (k+1)
noncomputable def iEn(a:EvE):EvA:=λZ=>(a Z).bind λd=>(asL d).bind λds=>cz (F9 ds 0)
theorem a3q:∀(ds:List D) (k:Nat),(F9 ds k).length=ds.length
 |[],_=>rfl
 |d::ds,k=>by show (F9 ds (k+1)).length+1=_;rw[a3q ds];rfl
theorem a3r:∀(ds:List D) (k i:Nat) (d:D),ds[i]?=cz d->(F9 ds k)[i]?=cz (.tuple [.int ((k+i:Nat):Int),d])
 |[],_,i,d,h=>by simp at h
 |d0::ds,k,0,d,h=>by
  have:d0=d:=by simpa using h
  subst this;rfl
 |d0::ds,k,i+1,d,h=>by
  have:=a3r ds (k+1) i d (by simpa using h);show (F9 ds (k+1))[i]?=_;rw[this,gj,jH 1]
section
variable {X:Cx}{M ML:List Md}{a e iter:Expr}{elts:List Expr}{kk:Nat}{jg pos p:fW}{fa:EvE}{ca:Cat}{u:Ty}{body:List iE}{g:EvS}
def c3f(K:ag)(ta:TA):TI:=λU H R=>ta U H λvs H1=>∃a xs,vs=[.ref a]/\SqL K H1 a xs/\R (Ite K a) H1
open PyProof.Rows in
def b6A(hg:Gl X "enumerate")(hm:X.mg "enumerate"=xn)(ha:PA X [a] ta)(hs:au [a] X.env=[(yp,cK a X.env)]:=by rfl):PI X (.Tuple elts kk jg) (.Call (.Name "enumerate" p) [a] [] pos) (c3f X.K ta):=by
 intro pins s U H R I h;refine Call_ (a0u I hg hm PyProof.Rows.Boot.«enumerate» (gw (L2.thn (ha pos pins s U H _ I h) λus s1 ⟨vs,H1,I1,r1,q1⟩=>?_) hs rfl));obtain⟨l,xs,e,hq,q⟩:=q1;subst e;cases r1 with
 |cons r rr=>
  cases rr
  cases (show _=bM l from r)
  obtain⟨its,rv,pl,hz⟩:=I1.list hq;refine call_enumerate_list pl.isList λh' he hit kN hk=>?_
  refine wpAny_pyIter_enum he ?_;refine⟨s1.heap.objs.size+1,[s1.heap.objs.size+1,s1.heap.objs.size],_,_,H1,rfl,I1.kept (t':=s1.toks) hk,b1v l _ _ (Nat.succ_ne_self _),⟨⟨_,he⟩,hit⟩,λb hb=>?_,q⟩;have q_:s1.heap.objs.size<=b:=by
   rcases aD.mp hb with z|z
   ·rw[z];exact w_ _
   ·rw[aq.mp z];exact ay _
  exact I1.fpOk q_ (I1.hok.fresh q_)
noncomputable def c1K(X:Cx)(M:List Md)(tg iter:Expr)(f:EvE):Prop:=
 ∃wi,PI X tg iter wi/\∀(Z:List D) (U:L2.St) (H P:Hp) (F:List av) (ds:List D) (R:It->Hp->Prop),StE X.K M Z U H P F->f Z=cz (.list ds)->
  (∀a xs H1,Same H H1->(∀H2,Same (cut H1 F) H2->SqL X.K H2 a xs)->DenAll X.K (cut H1 F) xs ds->R (Ite X.K a) H1)->wi U H R
def b9M(hm:X.mg "enumerate"=xn)(h:PX X M a fa ca)(hc:frozen ca:=by trivial)(hg:Gl X "enumerate":=by rfl)(he:au [a] X.env=[(yp,cK a X.env)]:=by rfl)(qD:au [a] X.env=(yp,cK a X.env)::au [] X.env:=by rfl) :
  c1K X M (.Tuple elts kk jg) (.Call (.Name "enumerate" p) [a] [] pos) fa:=by
 obtain⟨t,p,q⟩:=h.out;refine⟨_,b6A hg hm (l0 p p9 qD) he,λZ U H P F ds R S hf k=>?_⟩;refine q Z U H P F _ _ S hf λv H1 e1 r1=>?_
 obtain⟨aa,xs,rfl,k1,k2⟩:=(a0T hc r1).list_inv;exact⟨aa,xs,rfl,(O7 k1 j9).l,k _ xs H1 e1 (λH2 e2=>(O7 k1 e2).l) k2⟩
def b3C{Z ps:List D}(h:iI f Z=cz ps):f Z=cz ps:=by
 obtain⟨ds,h1,g1⟩:=bnd h;by_cases c:c9 ds=yn
 ·have:(if c9 ds=yn then cz ds else xn)=cz ps:=g1;rw[aB c]at this;rw[h1,this]
 ·have:(if c9 ds=yn then cz ds else xn)=cz ps:=g1;rw[aJ c]at this;cases this
def a5K{set:List D->D->Option (List D)}{m:D->Prop}(hc:X.calm=yn)(hp:ow (aV X.prog X.w) X.A X.env X.xe)(hi:c1K X M tg iter fa)(hg:PG X tg gt)(hs:b3f X.K M MB gt set m)(hm:∀Z ds,fi Z=cz ds->∀d∈ds,m d)(D_:∀{Z ps},fi Z=cz ps->iEn fa Z=cz ps)(hb:PSsX X u M MB body g M)
  (hf:∀x,dM iter X.env x=pure x:=by intro _;rfl):PSX X u ML M (.For tg iter body [] pos) (A7 fi set g) M:=by
 obtain⟨wi,pi,qi⟩:=hi;obtain⟨tb,pb,qb⟩:=hb.out;refine .mk ⟨_,a7M hp hc pi hg pb hf,λD Z U H P F o S tS k=>?_⟩;obtain⟨ps,h1,g1⟩:=bnd tS;obtain⟨d0,h2,g2⟩:=bnd (D_ h1);obtain⟨ds,h3,g3⟩:=bnd g2;cases Q2 h3
 have xw:F9 ds 0=ps:=aH g3;refine qi Z U H P F ds _ S.toE h2 λa xs H1 e1 qw hx=>?_
 have S1:=S.grow e1;have om:=hx.length;have gT:ps.length=ds.length:=by rw[<-xw,a3q]
 refine⟨λi n U' H'=>n=xs.length-i/\i<=xs.length/\∃Z' F',StR X.K M Z' U' H' (cut H1 F) F'/\V8 set g (ps.drop i) Z'=cz o,⟨xs.length,by simp,cG _,Z,F,⟨S1.all,S1.lst,Same.refl _⟩,g1⟩,?_⟩;rintro i n U' H' ⟨rfl,hi,Z',F',S',hfl⟩;have nK:Same (cut H1 F) (cut H' F'):=S'.prot;have q:=qw H' (nK.trans j9);by_cases jk:i<xs.length
 ·refine .inr ⟨⟨xs,xs[i],q,ab jk⟩,λU2 H2=>∃Z2 F2,StR X.K M Z2 U2 H2 (cut H1 F) F2/\V8 set g (ps.drop (i+1)) Z2=cz o,λU2 H2 ⟨Z2,F2,S2,h2⟩=>⟨xs.length-(i+1),by lia,rfl,jk,Z2,F2,S2,h2⟩,λx H2 hy=>?_⟩;obtain⟨T,y,hT,rfl,rfl,yE⟩:=hy;have nJ:=yE xs q;have mh:i<ps.length:=by lia
  have lV:ps.drop i=ps[i]::ps.drop (i+1):=dA mh;rw[lV]at hfl;obtain⟨Z1,sA,g4⟩:=bnd (show (set Z' ps[i]).bind _=cz o from hfl);obtain⟨o1,hg1,g5⟩:=bnd g4;obtain⟨d',nO,qE⟩:=(hx.up nK).getV nJ;have qU:ps[i]=.tuple [.int (i:Nat),d']:=by
   have:=a3r ds 0 i d' nO;rw[xw,ab mh,ip]at this;exact aH this
  have sI:Same H' (upd H' T (.tup [.int i,y])):=k8 hT _;have S2:=S'.grow sI;have Eu:T∉F':=λz=>by
   obtain⟨ys,e⟩:=S'.lst T z;rw[hT]at e;cases e
  have kT:Den X.K (cut (upd H' T (.tup [.int i,y])) F') (.ref T) (.tuple [.int (i:Nat),d']):=by
   have rP:Same (cut H' F') (cut (upd H' T (.tup [.int i,y])) F'):=P6 sI;have hd2:=qE.up rP;have rd:cut (upd H' T (.tup [.int i,y])) F' T=cz (.tup [.int i,y]):=i9 Eu f8;simp only[Den];exact⟨T,[.int i,y],rfl,SqT.of rd,denAll_cons den_int (denAll_cons hd2 denAll_nil)⟩
  rw[qU]at sA;refine hs Z' U' _ (cut H1 F) F' (.ref T) _ Z1 _ S2 kT (hm Z ps h1 _ (by rw[<-qU];exact dm mh)) sA λU3 F3 S3=>qb _ Z1 U3 _ (cut H1 F) F3 o1 S3 hg1 ?_
  cases o1 with
  |nx Z2=>exact λU4 H4 F4 S4=>⟨Z2,F4,S4,g5⟩
  |ct Z2=>exact λU4 H4 F4 S4=>⟨Z2,F4,S4,g5⟩
  |bk Z2=>
   have:o=.nx Z2:=(aH g5).symm;subst this;exact λU4 H4 F4 S4=>k U4 H4 F4 ⟨S4.all,S4.lst,S1.prot.trans S4.prot⟩
  |rt d=>
   have:o=.rt d:=(aH g5).symm;subst this;refine λv H4 fp o nd fr e=>k v H4 fp o nd (λa ha=>?_) (S1.prot.trans e)
   exact S1.prot.free (fr a ha)
 ·have e:i=xs.length:=by lia
  subst e;rw[om,<-gT,gI]at hfl;have:o=.nx Z':=(aH hfl).symm;subst this;exact .inl ⟨⟨xs,q,ay _⟩,k U' H' F' ⟨S'.all,S'.lst,S1.prot.trans S'.prot⟩⟩
end
def insI(n:Int):List Int->List Int
 |[]=>[n]
 |m::ms=>if n<=m then n::m::ms else m::insI n ms
def srt:List Int->List Int
 |[]=>[]
 |n::ns=>insI n (srt ns)
theorem vals_ints:∀{vs:List ak} {ns:List Int},l_ vs ns->Vals (ns.map V.int) vs
 |_,_,.nil=>.nil
 |_,_,.cons n t r=>.cons ⟨t,rfl⟩ (vals_ints r)
theorem b9N:∀ns:List Int,c9 (ns.map aK)=yn
 |[]=>by simp only[cZ,c9]
 |n::ns=>by simp only[ax,c9,imm,b9N ns,er]
noncomputable def eD1(kt:Bool)(fk fv:EvE):EvE:=λZ=>(fk Z).bind λk=>(fv Z).bind λd=>if s9 kt k then cz (.dict [(k,d)]) else xn
section
variable {X:Cx}{M:List Md}{k v:Expr}{fk fv:EvE}{ck:Cat}{kt:Bool}{u:Ty}{pos:fW}
def b1w(hu:X.A.units+64<dQ)(hk:PE X k tk)(hv:PE X v tv):PE X (.Dict [cz k] [v] pos) (λU H Q=>∀p,H p=xn->tk U (upd H p (g9 p [])) λkv H1=>tv U H1 λvv H2=>∃kt kd,H2 p=cz (g9 p [])/\KeysAt X H2 kt [] kd kv/\Q (.ref p) (upd H2 p (g9 p [(kd,kv,vv)]))):=by
 intro pins s U H Q I h;have I1:=I.laid (a:=s.heap.objs.size) (o:=g9 s.heap.objs.size []) (t':=s.toks) (λ_ _ q=>aG _ q) (ay _) (b1j s.heap I.sysBelow);rw[arm_eval_Dict,zip_pairTrees [cz k] [v] X.env pos rfl rfl,dictDisplay_pairs (pairTrees [cz k] [v] X.env pos) (by simp[pairTrees]) (by rw[pairTrees_length _ _ _ _ rfl rfl];simp)];refine ae (lC (ae ?_));unfold subDict;refine ae (wpAny_alloc ?_);refine ae (cY ?_);rw[aB (by rw[pairTrees_length _ _ _ _ rfl rfl];simp)];refine ae ?_;refine pairTrees_cons_walk (L2.thn (hk pins _ U _ _ I1 (h _ (I.hok.fresh (ay _)))) λkv s2 ⟨x,H1,I2,rx,q⟩=>L2.thn (hv pins s2 U H1 _ I2 q) λvv s3 ⟨y,H2,I3,ry,kt,kd,e,K,q4⟩=>?_);refine pairTrees_nil_walk ?_;refine cY ?_;refine ae ?_;rw[pQ];refine ae (ae (set_dict I3 (by lia) e K rx ry (by rw[cX];decide) λs' I'=>aE ?_));show aX _ _ (forIn ([]:List (ak×ak)) PUnit.unit _) _ _ _;rw[qQ];exact aE (aE (aE (aE ⟨.ref _,_,I',rfl,q4⟩)))
def b3D(hu:X.A.units+64<dQ)(hk:PX X M k fk ck)(hv:PX X M v fv (.new u)):PX X M (.Dict [cz k] [v] pos) (eD1 kt fk fv) (.new (.d kt u)):=by
 obtain⟨tk,pk,qk⟩:=hk.out;obtain⟨tv,pv,qv⟩:=hv.out;refine .mk ⟨_,b1w hu pk pv,λZ U H P F d Q S hf q=>?_⟩;obtain⟨kd,h1,g1⟩:=bnd hf;obtain⟨vd,h2,g2⟩:=bnd g1;by_cases c:s9 kt kd=yn
 ·rw[aB c]at g2;cases g2
  intro p hp;have s0:=k8 hp (g9 p []);have S0:StE X.K M Z U (upd H p (g9 p [])) P ([p]++F):=S.more s0 (λa ha=>by rw[aq.mp ha];exact hp) λa ha=>by rw[aq.mp ha];exact⟨⟨g9 p [],trivial⟩,f8⟩
  refine qk Z U _ P ([p]++F) kd _ S0 h1 λkv H1 s1 r1=>qv Z U H1 P ([p]++F) vd _ (S0.grow s1) h2 λvv H2 s2 ⟨fp,o,hn,lK⟩=>?_
  have jL:H2 p=cz (g9 p []):=(s1.trans s2) _ _ f8;have vG:∀a∈fp,a≠p:=λa ha z=>by
   have:=lK a ha;rw[z,s1 _ _ f8]at this;cases this
  have hF:∀a∈(p::fp)++F,∃ys:MuO,upd H2 p (g9 p [(kd,kv,vv)]) a=cz ys.1:=λa ha=>by
   by_cases e:a=p
   ·subst e;exact⟨⟨g9 a _,trivial⟩,f8⟩
   ·rw[c7 e];rcases ao.mp ha with z|z
    ·rcases aD.mp z with z|z
     ·exact absurd z e
     ·exact o.lst u a z
    ·exact ((S0.grow s1).grow s2).lst a (ah _ z)
  have hc:Same (cut H2 (fp++([p]++F))) (cut (upd H2 p (g9 p [(kd,kv,vv)])) ((p::fp)++F)):=λa x hx=>by
   obtain⟨n1,n2⟩:=m8 hx;have rQ:a≠p:=λz=>n1 (by rw[z];simp)
   refine i9 (λz=>n1 ?_) (by rw[c7 rQ];exact n2);rcases ao.mp z with z|z
   ·rcases aD.mp z with z|z
    ·exact absurd z rQ
    ·exact aj _ z
   ·exact ah _ (ah _ z)
  refine⟨kt,kd,jL,⟨(λe he=>nomatch he),L1 c,r1.den.up s2⟩,q _ _ (λa x hx=>?_) ⟨p::fp,?_,?_,λa ha=>?_⟩⟩
  ·rw[c7 (λz=>by rw[z,hp]at hx;cases hx)];exact (s0.trans (s1.trans s2)) _ _ hx
  ·simp only[Own];refine⟨p,[(kd,kv,vv)],[vd],fp++[],rfl,f8,rfl,by rw[bb],⟨by simp,λe he=>?_⟩,k9 (o.frame hc u λa ha=>c7 (vG a ha)) l8⟩;rw[aq.mp he];refine⟨L1 c,Den.imm_out hF kd (W3 _ (L1 c).1) ?_⟩;have dk:=r1.den.up s2;exact (Den.imm_out (F:=[p]) (λa ha=>by rw[aq.mp ha];exact⟨⟨g9 p [],trivial⟩,jL⟩) kd (W3 _ (L1 c).1) dk).up λa x hx=>by
    obtain⟨n1,n2⟩:=m8 hx;rw[c7 (λz=>n1 (by rw[z];simp))];exact n2
  ·exact bY.mpr ⟨λz=>vG p z rfl,hn⟩
  ·rcases aD.mp ha with z|z
   ·rw[z];exact hp
   ·exact s0.free (s1.free (lK a z))
 ·rw[aJ c]at g2;cases g2
end
end VS
namespace PySem
open Sem (wp)
set_option maxRecDepth 100000
def Heap.IsValuesView.at{h g1:cS}{v d}(x:h.IsValuesView v d)(e:∀o,h.get? v=cz o->g1.get? v=cz o):g1.IsValuesView v d:=let⟨o,ho,r⟩:=x;⟨o,e _ ho,r⟩
theorem Heap.IsValuesView.push{h:cS}{v d}(x:h.IsValuesView v d)(o:fY):(h.push o).IsValuesView v d:=x.at λ_ e=>aG o e
section
variable {prog:bB}{w:bZ}{K:Type}[DecidableEq K]{knd:KeyKind prog w K}{A:bS}{E:ak->ar->Prop}{s:ar}
def b1x(hT:s.TypeIs (.ref d) "dict")(h:Q yp s):aX (aV prog w) A (gK (.ref d)) Q E s:=by
 unfold gK;refine ae (gA hT ur.lookup ?_);generalize wQ:("dict.__len__":String)=yD
 wp_delta
 rw[show splitId yD=cz ("dict","__len__") from by subst wQ;decide +kernel];subst wQ;refine ae (lP (T:="dict") (b:=yn) hT (by rw[isSubtype_type];kernel_rfl) ?_);refine iy (λrR=>absurd rR (by decide)) (λ_=>?_);refine iy (λ_=>?_) (λrR=>absurd (by decide +kernel) rR);refine ae (pV hT ?_);exact aE h
def b1y(hT:s.TypeIs (.ref d) "dict_values")(h:Q yp s):aX (aV prog w) A (gK (.ref d)) Q E s:=by
 unfold gK;refine ae (gA hT F.slot_dict_values_len.lookup ?_);generalize wQ:("dict_values.__len__":String)=yD
 wp_delta
 rw[show splitId yD=cz ("dict_values","__len__") from by subst wQ;decide +kernel];subst wQ;refine ae (lP (T:="dict_values") (b:=yn) hT (by rw[isSubtype_type];kernel_rfl) ?_);refine iy (λrR=>absurd rR (by decide)) (λ_=>?_);refine iy (λ_=>?_) (λrR=>absurd (by decide +kernel) rR);refine ae (pV hT ?_);exact aE h
def b3E(hh:A.handled=xn)(hd:(d==dr)=yp)(hm:s.heap.DictAt knd d kvs ep)
  (kN:kvs.length<=aZ) (L0:av) (res:ak) (c₀:Nat) (zl:s.heap.get? L0=cz {cls:=.type "list",data:=.seq #[] c₀})
  (kR:∀g1 tq ac cq,(∀b o,b≠L0->s.heap.get? b=cz o->g1.get? b=cz o)->g1.get? L0=cz {cls:=.type "list",dict:=xn,data:=.seq ac cq,slots:=#[]}->
   qR (λi v=>∃k x,kvs[i]?=cz (k,x)/\knd.is k v=yn) ac kvs.length->R (.ok (.ret res)) {s with heap:=g1,toks:=tq}) :
  aX (aV prog w) A.in1 (cU (.ref L0) (.ref d) res)
   (λuc sq=>match uc with|.done f=>R (.ok f) sq|.again cq=>cq.quiet=yn/\gX (aV prog w) A cq R sq) (λe sq=>R (.error e) sq) s:=by
 have rf:L0≠d:=λe=>by
  obtain⟨o,es,ho,hx,kK,_⟩:=hm;rw[<-e,zl]at ho;cases ho
  cases kK
 have wF:L0≠s.heap.objs.size:=bP (aU zl);have wu:d≠s.heap.objs.size:=bP hm.lt_size;have zN:L0∉[s.heap.objs.size,d]:=λinn=>by
  rcases aD.mp inn with e|e
  ·exact wF e
  ·exact rf (aq.mp e)
 have W:=(Walks.dictKeys (prog:=prog) (w:=w) (knd:=knd) (A:=A.in1) hh s.heap.objs.size d wu kvs ep).toS;have key:∀(h:cS) (c₁ tq:Nat),h.IsKeyIter s.heap.objs.size d 0 kvs.length ep->h.DictAt knd d kvs ep->(∀b o,b≠L0->s.heap.get? b=cz o->h.get? b=cz o)->
   h.get? L0=cz {cls:=.type "list",data:=.seq #[] c₁}->gX (aV prog w) A (.builtin "list.extend.loop" ⟨[.ref L0,.ref s.heap.objs.size,res],[]⟩) R {s with heap:=h,toks:=tq}:=by
  intro h c₁ tq hit qY hk pU;refine codeAny_extend_loopS W kN L0 zN res kvs.length 0 _ #[] c₁ rfl (cG _) ⟨hit,qY⟩ pU (qR.nil _) λsq ac cq vN pS lW=>?_
  rw[Moved.eq_with vN];refine kR sq.heap sq.toks ac cq (λb o nb e=>vN.heap b o (λinn=>?_) (hk b o nb e)) pS lW;rcases aD.mp inn with e'|inn
  ·exact nb e'
  ·exact absurd (aU e) (by rw[aq.mp inn];exact dR _)
 unfold cU;refine ae (pV (T:="dict") hm.dictOf.typeIs ?_);have h1:iu (.ref L0) (.ref d)=yp:=by simp[iu,rf]
 have h2:(fK "dict" == fK "list")=yp:=by decide
 have h3:(fK "dict" == fK "tuple")=yp:=by decide
 simp only[h1,h2,h3,Bool.or_false,br,dh];refine ae (wpAny_pyIter_dict hd hm ?_);refine ae (cY (b1x ((hm.push _).dictOf.typeIs) ?_));have pU:=aG {cls:=.type "dict_keyiterator",data:=.fields #[.ref d,.int 0 0,.int kvs.length 0,.int ep 0]} zl;have lU:(s.heap.push {cls:=.type "dict_keyiterator",data:=.fields #[.ref d,.int 0 0,.int kvs.length 0,.int ep 0]}).IsKeyIter s.heap.objs.size d 0 kvs.length ep:=⟨_,bh _ rfl,rfl,rfl⟩;refine iy (λ_=>?_) (λ_=>aE ⟨ig km _,key _ c₀ _ lU (hm.push _) (λb o _ e=>aG _ e) pU⟩);refine ae (iA ?_);refine ae ?_;show aX _ _ (oh L0 (·.push .none) >>= λ_=>oh L0 (·.pop)) _ _ _;refine ae (iw pU rfl ?_);have rz:=cJ (bX (·.push bw)) pU rfl;refine iw (hz:=by seq_fits) rz rfl ?_;have ya:=cJ (bX (·.pop)) rz rfl;have rest:∀b o,b≠L0->(s.heap.push {cls:=.type "dict_keyiterator",data:=.fields #[.ref d,.int 0 0,.int kvs.length 0,.int ep 0]}).get? b=cz o->(((s.heap.push {cls:=.type "dict_keyiterator",data:=.fields #[.ref d,.int 0 0,.int kvs.length 0,.int ep 0]}).update L0 (bX (·.push bw))).update L0 (bX (·.pop))).get? b=cz o:=λb o nb e=>(dG _ _ (cR nb)).trans ((dG _ _ (cR nb)).trans e)
 exact aE ⟨ig km _,key _ _ _ (lU.at λo e=>rest _ o (cR wF) e) ((hm.push _).at' λo e=>rest _ o (cR rf) e) (λb o nb e=>rest b o nb (aG _ e)) ya⟩
def b1z(hh:A.handled=xn)(hd:(d==dr)=yp)(hm:s.heap.DictAt knd d kvs ep)
  (kN:kvs.length<=aZ) (L0:av) (zl:s.heap.get? L0=cz {cls:=.type "list",data:=.seq #[]})
  (kR:∀g1 tq ac cq,(∀b o,b≠L0->s.heap.get? b=cz o->g1.get? b=cz o)->g1.get? L0=cz {cls:=.type "list",dict:=xn,data:=.seq ac cq,slots:=#[]}->
   qR (λi v=>∃k x,kvs[i]?=cz (k,x)/\knd.is k v=yn) ac kvs.length->R (.ok (.ret .none)) {s with heap:=g1,toks:=tq}) :
  aX (aV prog w) A.in1 (Builtin.«list.__init__» ⟨[.ref L0,.ref d],[]⟩)
   (λuc sq=>match uc with|.done f=>R (.ok f) sq|.again cq=>cq.quiet=yn/\gX (aV prog w) A cq R sq) (λe sq=>R (.error e) sq) s:=by
 have rf:L0≠d:=λe=>by
  obtain⟨o,es,ho,hx,kK,_⟩:=hm;rw[<-e,zl]at ho;cases ho
  cases kK
 show aX _ _ (do let old <-jd (.ref L0);BY (.ref L0) (λ_=>#[]);letGo old.toList.reverse;cU (.ref L0) (.ref d) .none) _ _ s;refine ae ?_;unfold jd;refine ae (uY zl rfl (aE ?_));show aX _ _ (oh L0 (λ_=>#[]) >>= λ_=>letGo (#[]:Array ak).toList.reverse >>= λ_=>cU (.ref L0) (.ref d) .none) _ _ s;refine ae (iw zl rfl ?_);have rz:=cJ (bX (λ_=>(#[]:Array ak))) zl rfl;have rest:∀b o,b≠L0->s.heap.get? b=cz o->(s.heap.update L0 (bX (λ_=>(#[]:Array ak)))).get? b=cz o:=
  λb o nb e=>(dG _ _ (cR nb)).trans e
 refine ae (so ?_);refine b3E hh hd (hm.at' λo e=>rest d o (cR rf) e) kN L0 .none _ rz λg1 tq ac cq hk pS lW=>?_
 exact kR g1 tq ac cq (λb o nb e=>hk b o nb (rest b o nb e)) pS lW
def a3s(hh:A.handled=xn)(hd:(d==dr)=yp)(hm:s.heap.DictAt knd d kvs ep)
  (kN:kvs.length<=aZ)
  (kQ:∀g1 tq ac cq,(∀b o,s.heap.get? b=cz o->g1.get? b=cz o)->
   g1.get? s.heap.objs.size=cz {cls:=.type "list",dict:=xn,data:=.seq ac cq,slots:=#[]}->qR (λi v=>∃k x,kvs[i]?=cz (k,x)/\knd.is k v=yn) ac kvs.length->Q (.ref s.heap.objs.size) {s with heap:=g1,toks:=tq}) :
  aX (aV prog w) A (call (.type "list") [.ref d]) Q E s:=by
 refine callType_codes (Q₁:=λobj s₁=>obj=.ref s.heap.objs.size/\s₁={s with heap:=s.heap.push {cls:=.type "list",data:=.seq #[]}}) F.called_list (F.typeCall_list_1 _) F.entry_list_init
  (code_list_new _ ⟨rfl,rfl⟩) λobj s₁ h₁=>?_
 obtain⟨rfl,rfl⟩:=h₁;have zl:(s.heap.push {cls:=.type "list",data:=.seq #[]}).get? s.heap.objs.size=cz {cls:=.type "list",data:=.seq #[]}:=bh _ rfl;refine⟨⟨_,zl,rfl⟩,F.args_list_init_2 _ _,b1z (A:=A.in1) hh hd (hm.push _) kN _ zl λg1 tq ac cq hk pS lW=>?_⟩;exact⟨rfl,kQ g1 tq ac cq (λb o e=>hk b o (bP (aU e)) (aG _ e)) pS lW⟩
def b3F(hh:A.handled=xn)(hd:(d==dr)=yp)(hm:s.heap.DictAt knd d kvs ep)(hv:s.heap.IsValuesView v d)
  (kN:kvs.length<=aZ) (L0:av) (res:ak) (c₀:Nat) (zl:s.heap.get? L0=cz {cls:=.type "list",data:=.seq #[] c₀})
  (kR:∀g1 tq ac cq,(∀b o,b≠L0->s.heap.get? b=cz o->g1.get? b=cz o)->g1.get? L0=cz {cls:=.type "list",dict:=xn,data:=.seq ac cq,slots:=#[]}->
   qR (λi v=>∃k,kvs[i]?=cz (k,v)) ac kvs.length->R (.ok (.ret res)) {s with heap:=g1,toks:=tq}) :
  aX (aV prog w) A.in1 (cU (.ref L0) (.ref v) res)
   (λuc sq=>match uc with|.done f=>R (.ok f) sq|.again cq=>cq.quiet=yn/\gX (aV prog w) A cq R sq) (λe sq=>R (.error e) sq) s:=by
 have rf:L0≠d:=λe=>by
  obtain⟨o,es,ho,hx,kK,_⟩:=hm;rw[<-e,zl]at ho;cases ho
  cases kK
 have zM:L0≠v:=λe=>by
  obtain⟨o,ho,hc,kK⟩:=hv;rw[<-e,zl]at ho;cases ho
  cases kK
 have wF:L0≠s.heap.objs.size:=bP (aU zl);have wu:d≠s.heap.objs.size:=bP hm.lt_size;have zN:L0∉[s.heap.objs.size,d]:=λinn=>by
  rcases aD.mp inn with e|e
  ·exact wF e
  ·exact rf (aq.mp e)
 have W:=(Walks.dictValues (prog:=prog) (w:=w) (knd:=knd) (A:=A.in1) hh s.heap.objs.size d wu kvs ep).toS;have key:∀(h:cS) (c₁ tq:Nat),h.IsValIter s.heap.objs.size d 0 kvs.length ep->h.DictAt knd d kvs ep->(∀b o,b≠L0->s.heap.get? b=cz o->h.get? b=cz o)->
   h.get? L0=cz {cls:=.type "list",data:=.seq #[] c₁}->gX (aV prog w) A (.builtin "list.extend.loop" ⟨[.ref L0,.ref s.heap.objs.size,res],[]⟩) R {s with heap:=h,toks:=tq}:=by
  intro h c₁ tq hit qY hk pU;refine codeAny_extend_loopS W kN L0 zN res kvs.length 0 _ #[] c₁ rfl (cG _) ⟨hit,qY⟩ pU (qR.nil _) λsq ac cq vN pS lW=>?_
  rw[Moved.eq_with vN];refine kR sq.heap sq.toks ac cq (λb o nb e=>vN.heap b o (λinn=>?_) (hk b o nb e)) pS lW;rcases aD.mp inn with e'|inn
  ·exact nb e'
  ·exact absurd (aU e) (by rw[aq.mp inn];exact dR _)
 unfold cU;refine ae (pV (T:="dict_values") hv.typeIs ?_);have h1:iu (.ref L0) (.ref v)=yp:=by simp[iu,zM]
 have h2:(fK "dict_values" == fK "list")=yp:=by decide
 have h3:(fK "dict_values" == fK "tuple")=yp:=by decide
 simp only[h1,h2,h3,Bool.or_false,br,dh];refine ae (wpAny_pyIter_values hv hm ?_);refine ae (cY (b1y ((hv.push _).typeIs) ?_));have pU:=aG {cls:=.type "dict_valueiterator",data:=.fields #[.ref d,.int 0 0,.int kvs.length 0,.int ep 0]} zl;have lU:(s.heap.push {cls:=.type "dict_valueiterator",data:=.fields #[.ref d,.int 0 0,.int kvs.length 0,.int ep 0]}).IsValIter s.heap.objs.size d 0 kvs.length ep:=⟨_,bh _ rfl,rfl,rfl⟩;refine iy (λ_=>?_) (λ_=>aE ⟨ig km _,key _ c₀ _ lU (hm.push _) (λb o _ e=>aG _ e) pU⟩);refine ae (iA ?_);refine ae ?_;show aX _ _ (oh L0 (·.push .none) >>= λ_=>oh L0 (·.pop)) _ _ _;refine ae (iw pU rfl ?_);have rz:=cJ (bX (·.push bw)) pU rfl;refine iw (hz:=by seq_fits) rz rfl ?_;have ya:=cJ (bX (·.pop)) rz rfl;have rest:∀b o,b≠L0->(s.heap.push {cls:=.type "dict_valueiterator",data:=.fields #[.ref d,.int 0 0,.int kvs.length 0,.int ep 0]}).get? b=cz o->(((s.heap.push {cls:=.type "dict_valueiterator",data:=.fields #[.ref d,.int 0 0,.int kvs.length 0,.int ep 0]}).update L0 (bX (·.push bw))).update L0 (bX (·.pop))).get? b=cz o:=λb o nb e=>(dG _ _ (cR nb)).trans ((dG _ _ (cR nb)).trans e)
 exact aE ⟨ig km _,key _ _ _ (lU.at λo e=>rest _ o (cR wF) e) ((hm.push _).at' λo e=>rest _ o (cR rf) e) (λb o nb e=>rest b o nb (aG _ e)) ya⟩
def b1A(hh:A.handled=xn)(hd:(d==dr)=yp)(hm:s.heap.DictAt knd d kvs ep)(hv:s.heap.IsValuesView v d)
  (kN:kvs.length<=aZ) (L0:av) (zl:s.heap.get? L0=cz {cls:=.type "list",data:=.seq #[]})
  (kR:∀g1 tq ac cq,(∀b o,b≠L0->s.heap.get? b=cz o->g1.get? b=cz o)->g1.get? L0=cz {cls:=.type "list",dict:=xn,data:=.seq ac cq,slots:=#[]}->
   qR (λi v=>∃k,kvs[i]?=cz (k,v)) ac kvs.length->R (.ok (.ret .none)) {s with heap:=g1,toks:=tq}) :
  aX (aV prog w) A.in1 (Builtin.«list.__init__» ⟨[.ref L0,.ref v],[]⟩)
   (λuc sq=>match uc with|.done f=>R (.ok f) sq|.again cq=>cq.quiet=yn/\gX (aV prog w) A cq R sq) (λe sq=>R (.error e) sq) s:=by
 have rf:L0≠d:=λe=>by
  obtain⟨o,es,ho,hx,kK,_⟩:=hm;rw[<-e,zl]at ho;cases ho
  cases kK
 have zM:L0≠v:=λe=>by
  obtain⟨o,ho,hc,kK⟩:=hv;rw[<-e,zl]at ho;cases ho
  cases kK
 show aX _ _ (do let old <-jd (.ref L0);BY (.ref L0) (λ_=>#[]);letGo old.toList.reverse;cU (.ref L0) (.ref v) .none) _ _ s;refine ae ?_;unfold jd;refine ae (uY zl rfl (aE ?_));show aX _ _ (oh L0 (λ_=>#[]) >>= λ_=>letGo (#[]:Array ak).toList.reverse >>= λ_=>cU (.ref L0) (.ref v) .none) _ _ s;refine ae (iw zl rfl ?_);have rz:=cJ (bX (λ_=>(#[]:Array ak))) zl rfl;have rest:∀b o,b≠L0->s.heap.get? b=cz o->(s.heap.update L0 (bX (λ_=>(#[]:Array ak)))).get? b=cz o:=
  λb o nb e=>(dG _ _ (cR nb)).trans e
 refine ae (so ?_);refine b3F hh hd (hm.at' λo e=>rest d o (cR rf) e) (hv.at λo e=>rest v o (cR zM) e) kN L0 .none _ rz λg1 tq ac cq hk pS lW=>?_
 exact kR g1 tq ac cq (λb o nb e=>hk b o nb (rest b o nb e)) pS lW
def a3t(hh:A.handled=xn)(hd:(d==dr)=yp)(hm:s.heap.DictAt knd d kvs ep)(hv:s.heap.IsValuesView v d)
  (kN:kvs.length<=aZ)
  (kQ:∀g1 tq ac cq,(∀b o,s.heap.get? b=cz o->g1.get? b=cz o)->
   g1.get? s.heap.objs.size=cz {cls:=.type "list",dict:=xn,data:=.seq ac cq,slots:=#[]}->qR (λi v=>∃k,kvs[i]?=cz (k,v)) ac kvs.length->Q (.ref s.heap.objs.size) {s with heap:=g1,toks:=tq}) :
  aX (aV prog w) A (call (.type "list") [.ref v]) Q E s:=by
 refine callType_codes (Q₁:=λobj s₁=>obj=.ref s.heap.objs.size/\s₁={s with heap:=s.heap.push {cls:=.type "list",data:=.seq #[]}}) F.called_list (F.typeCall_list_1 _) F.entry_list_init
  (code_list_new _ ⟨rfl,rfl⟩) λobj s₁ h₁=>?_
 obtain⟨rfl,rfl⟩:=h₁;have zl:(s.heap.push {cls:=.type "list",data:=.seq #[]}).get? s.heap.objs.size=cz {cls:=.type "list",data:=.seq #[]}:=bh _ rfl;refine⟨⟨_,zl,rfl⟩,F.args_list_init_2 _ _,b1A (A:=A.in1) hh hd (hm.push _) (hv.push _) kN _ zl λg1 tq ac cq hk pS lW=>?_⟩;exact⟨rfl,kQ g1 tq ac cq (λb o e=>hk b o (bP (aU e)) (aG _ e)) pS lW⟩
end
end PySem
namespace VS
open PySem PySem.Spec L2
theorem a2I:∀{xs:List V} {us:List ak},xs.length=us.length->(∀(i:Nat) (x:V) (u:ak),xs[i]?=cz x->us[i]?=cz u->RelV x u)->Vals xs us
 |[],[],_,_=>.nil
 |[],_::_,h,_=>by simp at h
 |_::_,[],h,_=>by simp at h
 |x::xs,u::us,hl,h=>.cons (h 0 x u rfl rfl) (a2I (by simpa using hl) λi x u h1 h2=>h (i+1) x u (by simpa using h1) (by simpa using h2))
def J7(es:List (D×V×V)):Prop:=∀e∈es,∃n,e.1=.int n/\e.2.1=.int n
def EKv(e:D×V×V)(kv:Int×ak):Prop:=e.1=.int kv.1/\e.2.1=.int kv.1/\RelV e.2.2 kv.2
def b1B(h:fR V2 es l):J7 es->∃kvs:List (Int×ak),Pairs (gW P w) l kvs/\fR EKv es kvs:=by
 induction h with
 |nil=>exact λ_=>⟨[],.nil,.nil⟩
 |@cons e x es l r _ ih=>
  intro hk;obtain⟨kvs,h1,h2⟩:=ih λe he=>hk e (aw _ he)
  obtain⟨n,e1,e2⟩:=hk e aL;obtain⟨hh,oH,tD⟩:=r;rw[e2]at oH;obtain⟨t,ht⟩:=(show ∃t,x.key=g_ n t from oH);exact⟨(n,x.val)::kvs,.cons (by rw[ht];simp[gW,jR]) rfl h1,.cons ⟨e1,e2,tD⟩ h2⟩
def b3G(h:fR EKv es kvs):es.map (·.1)=(kvs.map (·.1)).map aK:=by
 induction h with
 |nil=>rfl
 |cons r _ ih=>rw[ax,ax,ax,ih,r.1]
section
variable {X:Cx}{M:List Md}{a o:Expr}{fa:EvE}{ca:Cat}{pos p apos cP:fW}
def a0C(I:Inv X pins U H s)(hH:H d=cz (g9 d es))(hk:J7 es) :
  ∃kvs ep,s.heap.DictAt (gW X.prog X.w) d kvs ep/\(d==dr)=yp/\es.length<=aZ/\fR EKv es kvs:=by
 obtain⟨h0,hl,hn,o,ents,ep,h1,h2,h3,h4⟩:=y7 I hH;obtain⟨kvs,p1,p2⟩:=b1B (P:=X.prog) (w:=X.w) h4 hk;refine⟨kvs,ep,⟨o,ents,h1,h2,h3,λx hx=>?_,p1,?_⟩,h0,hl,p2⟩
 ·obtain⟨j,hj⟩:=c_.mp (je.mpr hx);obtain⟨e,he,hh,oH,_⟩:=a2c h4 hj;obtain⟨n,e1,e2⟩:=hk e (bt he);rw[e2]at oH;obtain⟨t,ht⟩:=(show ∃t,x.key=g_ n t from oH);exact⟨n,by rw[ht];simp[gW,jR],by rw[hh,e1];rfl⟩
 ·rw[b3G p2]at hn;exact List.Pairwise.of_map aK (λa b h e=>h (by rw[e])) hn
def a8t(hc:X.calm=yn):CallR X (.type "list") (λxs H Q=>∃p es,xs=[.ref p]/\H p=cz (g9 p es)/\J7 es/\∀l,H l=xn->Q (.ref l) (upd H l (.lst (es.map (·.2.1))))):=by
 intro pins s U H xs us Q I rv h;obtain⟨p,es,rfl,hH,hk,q⟩:=h;obtain⟨u,rfl,rx⟩:=vals1 rv;cases (show u=bM p from rx)
 obtain⟨kvs,ep,rd,h0,hl,hp⟩:=a0C I hH hk;have hlen:=gF hp;refine a3s (knd:=gW X.prog X.w) (I.ok.hd hc) h0 rd (by lia) λg1 tq ac cq keep ho lW=>?_
 refine⟨.ref s.heap.objs.size,_,I.laid (t':=tq) keep (ay _) (show ObjOk X.prog X.w _ g1 _ (.lst (es.map (·.2.1))) from⟨by rw[ai];exact hl,ac.toList,cq,?_,by rw[xf];exact ho⟩),rfl,q _ (I.hok.fresh (ay _))⟩;refine a2I (by rw[ai];have z1:=lW.1;have z2:ac.toList.length=ac.size:=aP;lia) λi x u h1 h2=>?_
 rw[bR]at h2;obtain⟨k,y,h3,h4⟩:=lW.2 i u h2;rw[aQ]at h1;obtain⟨e,he,rfl⟩:=eu.mp h1;obtain⟨kv,g3,g4⟩:=M9 hp he;rw[h3]at g3;cases g3
 obtain⟨t,rfl⟩:=ak.isInt_shape h4;rw[g4.2.1];exact⟨t,rfl⟩
def a4U(v d:av):HO:=.ext λh=>h.IsValuesView v d
def b1C{h':cS}(h:h'.IsValuesView v d):ObjOk P w H' h' v (a4U v d):=
 ⟨h,let⟨o,ho,_⟩:=h;⟨o,ho⟩,λx1 x2 ⟨o,ho,r⟩ hk=>⟨o,hk _ ho,r⟩⟩
def b1D(ho:PE X o to)(fJ:dY o "values" X.env (cK o X.env)=cK o X.env:=by rfl)(fI:(apos.endLine==cP.line)=yn:=by rfl) :
  PE X (.Call (.Attribute o "values" apos) [] [] cP) (λU H Q=>to U H λx H1=>∃p es,x=.ref p/\H1 p=cz (g9 p es)/\J7 es/\∀l,H1 l=xn->Q (.ref l) (upd H1 l (a4U l p))):=by
 intro pins s U H Q I h;refine wpAny_Call_method0_late fJ fI (L2.thn (ho pins s U H _ I h) λv s1 ⟨x,H1,I1,r1,p,es,ex,hH,hk,q1⟩=>?_);subst ex;obtain rfl:v=bM p:=r1;obtain⟨kvs,ep,rd,h0,hl,hp⟩:=a0C I1 hH hk;refine⟨"dict","dict.values",sQ,sd,PySem.F.type_dict_values,o9 I1 hH,a0Z I1 hH,mK rfl (PySem.evalArgs_none ?_)⟩;refine call_meetsIn sd (o9 I1 hH) PySem.F.entry_dict_values (PySem.F.args_dict_values_1 _) (meets_dict_values (gW X.prog X.w) p h0) ⟨⟨kvs,rd.dictOf⟩,?_⟩;exact⟨.ref s1.heap.objs.size,_,I1.laid (a:=s1.heap.objs.size) (o:=a4U s1.heap.objs.size p) (t':=s1.toks) (λ_ _ q=>aG _ q) (ay _) (b1C ⟨_,bh _ rfl,rfl,rfl⟩),rfl,q1 _ (I1.hok.fresh (ay _))⟩
def a8u(hc:X.calm=yn):CallR X (.type "list") (λxs H Q=>∃v p es,xs=[.ref v]/\H v=cz (a4U v p)/\H p=cz (g9 p es)/\J7 es/\∀l,H l=xn->Q (.ref l) (upd H l (.lst (es.map (·.2.2))))):=by
 intro pins s U H xs us Q I rv h;obtain⟨v,p,es,rfl,hV,hH,hk,q⟩:=h;obtain⟨u,rfl,rx⟩:=vals1 rv;cases (show u=bM v from rx)
 obtain⟨kvs,ep,rd,h0,hl,hp⟩:=a0C I hH hk;have CT:s.heap.IsValuesView v p:=(show ObjOk X.prog X.w H s.heap v (a4U v p) from I.hok v _ hV).1;have hlen:=gF hp;refine a3t (knd:=gW X.prog X.w) (I.ok.hd hc) h0 rd CT (by lia) λg1 tq ac cq keep ho lW=>?_
 refine⟨.ref s.heap.objs.size,_,I.laid (t':=tq) keep (ay _) (show ObjOk X.prog X.w _ g1 _ (.lst (es.map (·.2.2))) from⟨by rw[ai];exact hl,ac.toList,cq,?_,by rw[xf];exact ho⟩),rfl,q _ (I.hok.fresh (ay _))⟩;refine a2I (by rw[ai];have z1:=lW.1;have z2:ac.toList.length=ac.size:=aP;lia) λi x u h1 h2=>?_
 rw[bR]at h2;obtain⟨k,h3⟩:=lW.2 i u h2;rw[aQ]at h1;obtain⟨e,he,rfl⟩:=eu.mp h1;obtain⟨kv,g3,g4⟩:=M9 hp he;rw[h3]at g3;cases g3
 exact g4.2.2
def intKeyed(h:DenKV K H es kvs)(hk:kvs.all (λp=>s9 yp p.1)=yn):J7 es:=λe he=>by
 have h1:e.1∈kvs.map (·.1):=by rw[<-h.keys];exact de he
 obtain⟨kv,h2,h3⟩:=aI.mp h1;obtain⟨n,hn⟩:=(L1 (eK.mp hk kv h2)).2.2.2 rfl;have hd:=h.kden e he;rw[<-h3,hn]at hd;exact⟨n,by rw[<-h3,hn],hd.int_inv⟩
theorem a1a:∀{es:List (D×V×V)},J7 es->DenAll K H (es.map (·.2.1)) (es.map (·.1))
 |[],_=>denAll_nil
 |e::es,h=>by
  obtain⟨n,e1,e2⟩:=h e aL;rw[ax,ax,e1,e2];exact denAll_cons den_int (a1a λe he=>h e (aw _ he))
theorem a1b:∀{es:List (D×V×V)},J7 es->c9 (es.map (·.1))=yn
 |[],_=>by simp only[cZ,c9]
 |e::es,h=>by
  obtain⟨n,e1,_⟩:=h e aL;simp only[ax,c9,e1,imm,a1b λe he=>h e (aw _ he),er]
noncomputable def a5L(a:EvE):EvE:=λZ=>(a Z).bind λd=>match d with
 |.dict kvs=>if kvs.all (λp=>s9 yp p.1) then cz (.list (kvs.map (·.1))) else xn
 |_=>xn
def b3H(hc:X.calm=yn)(hm:X.mg "list"=xn)(ha:PX X M a fa ca)(hg:Gl X "list":=by rfl)(he:au [a] X.env=(yp,cK a X.env)::au [] X.env:=by rfl)(gT:(cM pos (au [] X.env)).any (·.1)=yp:=by rfl) :
  PX X M (.Call (.Name "list" p) [a] [] pos) (a5L fa) (.new (.l .i)):=by
 obtain⟨ta,pa,qa⟩:=ha.out;refine .mk ⟨_,Y6 (a8t hc) hg hm PyProof.Rows.Boot.«list» (l0 pa p9 he) (by decide) (by decide) he gT,λZ U H P F d Q S hf q=>?_⟩;obtain⟨x,h1,g1⟩:=bnd hf;cases x with
 |dict kvs=>
  by_cases c:kvs.all (λp=>s9 yp p.1)=yn
  ·have g2:(if kvs.all (λp=>s9 yp p.1) then cz (b_ (kvs.map (·.1))) else xn)=cz d:=g1;rw[aB c]at g2;cases g2
   refine qa Z U H P F _ _ S h1 λv H1 e1 r1=>?_
   obtain⟨pp,es,rfl,k1,k2⟩:=r1.den.dict_inv;have hk:=intKeyed k2 c;refine⟨pp,es,rfl,k1,hk,λz hz=>q _ _ (e1.trans (k8 hz _)) ?_⟩;rw[<-k2.keys];exact Y9 (a1a hk) (a1b hk) e1 hz (S.lst' e1)
  ·have g2:(if kvs.all (λp=>s9 yp p.1) then cz (b_ (kvs.map (·.1))) else xn)=cz d:=g1;rw[aJ c]at g2;cases g2
 |_=>cases g1
noncomputable def a5M(a:EvE):EvE:=λZ=>(a Z).bind λd=>match d with
 |.dict kvs=>if kvs.all (λp=>s9 yp p.1)&&c9 (kvs.map (·.2)) then cz (.list (kvs.map (·.2))) else xn
 |_=>xn
def b3I(hc:X.calm=yn)(hm:X.mg "list"=xn)(ha:PX X M a fa ca)(hg:Gl X "list":=by rfl)(fJ:dY a "values" X.env (cK a X.env)=cK a X.env:=by rfl)(fI:(apos.endLine==cP.line)=yn:=by rfl)
  (he:au [.Call (.Attribute a "values" apos) [] [] cP] X.env=(yp,cK (.Call (.Attribute a "values" apos) [] [] cP) X.env)::au [] X.env:=by rfl) (gT:(cM pos (au [] X.env)).any (·.1)=yp:=by rfl) :
  PX X M (.Call (.Name "list" p) [.Call (.Attribute a "values" apos) [] [] cP] [] pos) (a5M fa) (.new (.l .i)):=by
 obtain⟨ta,pa,qa⟩:=ha.out;refine .mk ⟨_,Y6 (a8u hc) hg hm PyProof.Rows.Boot.«list» (l0 (b1D pa fJ fI) p9 he) (by decide) (by decide) he gT,λZ U H P F d Q S hf q=>?_⟩;obtain⟨x,h1,g1⟩:=bnd hf;cases x with
 |dict kvs=>
  have g2:(if kvs.all (λp=>s9 yp p.1)&&c9 (kvs.map (·.2)) then cz (b_ (kvs.map (·.2))) else xn)=cz d:=g1;by_cases c:(kvs.all (λp=>s9 yp p.1)&&c9 (kvs.map (·.2)))=yn
  ·rw[aB c]at g2;cases g2
   rw[aC]at c;refine qa Z U H P F _ _ S h1 λv H1 e1 r1=>?_
   obtain⟨pp,es,rfl,k1,k2⟩:=r1.den.dict_inv;have hk:=intKeyed k2 c.1;refine⟨pp,es,rfl,k1,hk,λy hy=>?_⟩;have e2:=k8 hy (a4U y pp);refine⟨y,pp,es,rfl,f8,e2 _ _ k1,hk,λz hz=>q _ _ ((e1.trans e2).trans (k8 hz _)) ?_⟩;exact Y9 (k2.vals.up e2) c.2 (e1.trans e2) hz (S.lst' (e1.trans e2))
  ·rw[aJ c]at g2;cases g2
 |_=>cases g1
end
section
variable {R:V->D->List av->Prop}
theorem a3u:∀{ds:List D} {xs:List V} {fs:List av},ListAll R xs ds fs->∃fl:List (List av),fs=fl.flatten/\fl.length=ds.length/\∀(j:Nat) (v:V) (d:D),xs[j]?=cz v->ds[j]?=cz d->R v d (fl.getD j [])
 |[],_,_,h=>by
  obtain⟨rfl,rfl⟩:=h.nil_inv;exact⟨[],rfl,rfl,λj v d h1=>by simp at h1⟩
 |d::ds,_,_,h=>by
  obtain⟨v,r,f,g,rfl,rfl,h1,h2⟩:=h.cons_inv;obtain⟨fl,rfl,h3,h4⟩:=a3u h2;refine⟨f::fl,rfl,by simp[h3],λj w e q1 q2=>?_⟩;cases j with
  |zero=>cases q1;cases q2;exact h1
  |succ j=>exact h4 j w e (by simpa using q1) (by simpa using q2)
theorem a2e:∀{gl:List (List av)} {ds:List D} {xs:List V},xs.length=gl.length->ds.length=gl.length->(∀(j:Nat) (v:V) (d:D),xs[j]?=cz v->ds[j]?=cz d->R v d (gl.getD j []))->ListAll R xs ds gl.flatten
 |[],ds,xs,h1,h2,_=>by
  rw[eU.mp h1,eU.mp h2];exact l8
 |g::gl,[],xs,h1,h2,_=>by simp at h2
 |g::gl,d::ds,[],h1,h2,_=>by simp at h1
 |g::gl,d::ds,v::xs,h1,h2,h=>k9 (h 0 v d rfl rfl) (a2e (by simpa using h1) (by simpa using h2) λj w e q1 q2=>h (j+1) w e (by simpa using q1) (by simpa using q2))
end
def a3v(fl:List (List av))(jl:List (Option Nat)):List (List av):=jl.map λo=>match o with
 |some j=>fl.getD j []
 |none=>[]
theorem a6T(b:av):∀(fl:List (List av)) (j:Nat),(fl.getD j []).count b+(fl.set j []).flatten.count b=fl.flatten.count b
 |[],j=>by simp
 |f::fl,0=>by simp
 |f::fl,j+1=>by
  have:=a6T b fl j;simp only[f_,List.flatten_cons,bG,eB];lia
theorem Z8(b:av):∀(jl:List (Option Nat)) (fl:List (List av)),(jl.filterMap id).Nodup->(a3v fl jl).flatten.count b<=fl.flatten.count b
 |[],fl,_=>by simp[a3v]
 |none::jl,fl,h=>by
  have:=Z8 b jl fl (by simpa using h);simpa[a3v]using this
 |some j::jl,fl,h=>by
  have h':(j::jl.filterMap id).Nodup:=by simpa using h
  obtain⟨h1,h2⟩:=bY.mp h';have ih:=Z8 b jl (fl.set j []) h2;have e:a3v (fl.set j []) jl=a3v fl jl:=by
   refine bH λo ho=>?_
   cases o with
   |none=>rfl
   |some i=>
    have gO:j≠i:=λz=>h1 (dW.mpr ⟨cz i,ho,by rw[z];rfl⟩)
    show (fl.set j []).getD i []=fl.getD i [];rw[af,af,bI gO]
  rw[e]at ih;have h3:=a6T b fl j;show (fl.getD j []++(a3v fl jl).flatten).count b<=_;rw[bG];lia
noncomputable def a5N(i:Nat)(fa:EvE):EvE:=λZ=>(fa Z).bind λd=>(asI d).bind λn=>match Z.getD i .none with
 |.dict kvs=>if 0<=n/\n<=1000000 then cz (.list ((l7 0 n.toNat).map λk=>(v6 kvs k).getD .none)) else xn
 |_=>xn
section
variable {X:Cx}{M:List Md}{a:Expr}{fa:EvE}{ca:Cat}{u:Ty}{pos apos cP p1 p2 p3 p4 rp:fW}
def F7(es:List (D×V×V))(k:D):Option Nat:=es.findIdx? λe=>aF e.1 k
def valAt(es:List (D×V×V))(k:D):V:=match F7 es k with
 |some j=>((es.map (·.2.2))[j]?).getD .non
 |none=>.non
def a4V(es:List (D×V×V))(ds:List D)(k:D):D:=match F7 es k with
 |some j=>(ds[j]?).getD .none
 |none=>.none
theorem a4W:∀{es:List (D×V×V)} {ds:List D} (k:D),ds.length=es.length->a4V es ds k=(v6 ((es.map (·.1)).zip ds) k).getD .none
 |[],ds,k,_=>by simp[a4V,F7,v6]
 |e::es,[],k,h=>by simp at h
 |e::es,d::ds,k,h=>by
  have ih:=a4W (es:=es) (ds:=ds) k (by simpa using h);unfold a4V F7 v6 at ih ⊢;rw[ax,dB,ju,List.findIdx?_cons];cases hq:aF e.1 k with
  |true=>rfl
  |false=>
   simp only[br,dh]at ih ⊢;rw[<-ih];cases es.findIdx? λe=>aF e.1 k with
   |none=>rfl
   |some j=>rfl
def a3w:F7 es k=xn↔A9 es k=yp:=by
 unfold F7 A9;rw[List.findIdx?_eq_none_iff,eA];exact⟨λh e he=>by rw[h e he];decide,λh e he=>by have:=h e he;cases hq:aF e.1 k with|true=>exact absurd hq this|false=>rfl⟩
def T7(h:F7 es k=cz j):∃e,es[j]?=cz e/\aF e.1 k=yn:=by
 unfold F7 at h;obtain⟨h1,h2,_⟩:=List.findIdx?_eq_some_iff_getElem.mp h;exact⟨es[j],ab h1,h2⟩
def b1E{es:List (D×V×V)}{ds:List D}(oY:a5I u=yn)(hl:ds.length=es.length)(hk:∀e∈es,keyOk yp e.1)(hn:(es.map (·.1)).Nodup)(h:ListAll (Own K H F u) (es.map (·.2.2)) ds fs)(mw:fs.Nodup) :
  ∀(n:Nat),∃jM,ListAll (Own K H F u) ((l7 0 n).map (valAt es)) ((l7 0 n).map (a4V es ds)) jM/\jM.Nodup/\∀a∈jM,a∈fs:=λn=>by
 obtain⟨fl,rfl,h1,h2⟩:=a3u h;have qy:(((l7 0 n).map (F7 es)).filterMap id).Nodup:=by
  rw[An];show ((l7 0 n).filterMap λk=>F7 es k).Nodup;unfold l7;rw[An];refine List.Pairwise.filterMap _ (λk k' iU j hj j' qA e=>iU ?_) List.nodup_range;obtain⟨e1,q1,q2⟩:=T7 (show F7 es (.int (0+(k:Int)))=cz j from hj);obtain⟨e2,q3,q4⟩:=T7 (show F7 es (.int (0+(k':Int)))=cz j' from qA);subst e;rw[q1]at q3;cases q3
  have rN:=(hk e1 (bt q1)).1;have z1:=(D5 e1.1 (.int (0+(k:Int))) rN rfl).mp q2;have z2:=(D5 e1.1 (.int (0+(k':Int))) rN rfl).mp q4;rw[z1]at z2
  injection z2 with z2
  lia
 refine⟨(a3v fl ((l7 0 n).map (F7 es))).flatten,a2e (by simp[a3v]) (by simp[a3v]) λj v d q1 q2=>?_,?_,λa ha=>?_⟩
 ·rw[aQ]at q1 q2;obtain⟨k,e1,rfl⟩:=eu.mp q1;rw[e1]at q2;cases q2
  have e3:(a3v fl ((l7 0 n).map (F7 es))).getD j []=match F7 es k with
   |some j=>fl.getD j []
   |none=>[]:=by
   unfold a3v;rw[af,aQ,aQ,e1];rfl
  rw[e3];unfold valAt a4V;cases xA:F7 es k with
  |none=>exact a6L oY
  |some i=>
   obtain⟨e,he,_⟩:=T7 xA;have hi:=(aM.mp he).1;have hd:ds[i]?=cz ds[i]:=ab (by lia);have hx:(es.map (·.2.2))[i]?=cz e.2.2:=by rw[aQ,he];rfl
   have:=h2 i _ _ hx hd;show Own K H F u (((es.map (·.2.2))[i]?).getD .non) ((ds[i]?).getD .none) (fl.getD i []);rw[hx,hd];exact this
 ·exact X0 mw λb=>Z8 b _ _ qy
 ·have:=Z8 a ((l7 0 n).map (F7 es)) fl qy;exact fA.mp (bo (fA.mpr ha) this)
def b3J{es:List (D×V×V)}(hn:(es.map (·.1)).Nodup)(h:e∈es)(h0:e0∈es)(hk:e.1=e0.1):e=e0:=by
 induction es with
 |nil=>cases h
 |cons x es ih=>
  rw[ax,bY]at hn;rcases aD.mp h with z|z<;>rcases aD.mp h0 with z'|z'
  ·rw[z,z']
  ·exact absurd (aI.mpr ⟨e0,z',by rw[<-hk,z]⟩) hn.1
  ·exact absurd (aI.mpr ⟨e,z,by rw[hk,z']⟩) hn.1
  ·exact ih hn.2 z z'
def a6U(X:Cx):TE:=λU H Q=>∃v,U[1]?=cz (cz v)/\(∃p es,v=.ref p/\H p=cz (g9 p es))/\∃w,U[0]?=cz (cz w)/\b7Z X v [w] H Q
def b6B(hu:X.A.units+64<dQ)(ED:X.N[0]?=cz y:=by rfl)(qm:autoParam (Vis X.env.scope y) ZY._auto_1)(zC:autoParam ((y==("__debug__":bE))=yp) ZV._auto_1)(El:autoParam ((y==("__classdict__":bE))=yp) ZV._auto_1)
  (EC:X.N[1]?=cz x:=by rfl) (yL:autoParam (Vis X.env.scope x) ZY._auto_1) (tW:autoParam ((x==("__debug__":bE))=yp) ZV._auto_1) (Ek:autoParam ((x==("__classdict__":bE))=yp) ZV._auto_1)
  (fJ:dY (.Name x p1) "get" X.env (cK (.Name x p1) X.env)=cK (.Name x p1) X.env:=by rfl)
  (iK:((cM cP (au [.Name y p2] X.env)).all (λx=>!x.1)&&(eX cP (dD [] X.env)).all (λx=>x.1.isSome)
   && decide (([.Name y p2]:List Expr).length+([]:List eO).length+(if ([]:List eO).isEmpty then 0 else 1)<30))=yn:=by rfl)
  (fI:(apos.endLine==cP.line)=yn:=by rfl) (hs:au [.Name y p2] X.env=(yp,cK (.Name y p2) X.env)::au [] X.env:=by rfl) (eJ:(cM cP (au [] X.env)).any (·.1)=yp:=by rfl) :
  PE X (.Call (.Attribute (.Name x p1) "get" apos) [.Name y p2] [] cP) (a6U X):=by
 intro pins s U H Q I h;refine a8p uU uT (b3t hu) (y8 EC yL tW Ek) (l0 (y8 ED qm zC El) p9 hs) fJ iK fI hs eJ pins s U H Q I ?_;obtain⟨v,h1,h2,w,h3,h4⟩:=h;exact⟨v,h1,h2,w,h3,h4⟩
def a3x:TT:=λ_ H Q=>Q yn H
def a9O:PTs X' [] a3x:=a9u
def b1F(i:Nat)(hc:X.calm=yn)(Dv:X.mg "range"=xn)(ha:PX X M a fa ca)(hg:∀cl Cl s H fp,PG (B5 X ([y]++[x]) scope cl Cl s H fp) (.Name y p3) (D0 0))(he:∀cl Cl s H fp,PE (B5 X ([y]++[x]) scope cl Cl s H fp) (.Call (.Attribute (.Name x p1) "get" apos) [.Name y p2] [] cP) (a6U (B5 X ([y]++[x]) scope cl Cl s H fp)))
  (hm:M[i]?=cz (.own (.d yp u)):=by rfl) (oY:a5I u=yn:=by rfl) (C:K5 scope X.env.kindOf [x] [i] X.N=yn:=by rfl) (DS:Gl X "range":=by rfl) (Ee:au [a] X.env=[(yp,cK a X.env)]:=by rfl) (zx:au [a] X.env=(yp,cK a X.env)::au [] X.env:=by rfl)
  (hs:∀x,dM (.Call (.Name "range" rp) [a] [] p4) X.env x=pure x:=by intro _;rfl) :
  PMX X M (.ListComp (.Call (.Attribute (.Name x p1) "get" apos) [.Name y p2] [] cP) [⟨.Name y p3,.Call (.Name "range" rp) [a] [] p4,[],0⟩] scope pos) (a5N i fa) (.l u) (M.set i .dead):=by
 have he:∀cl Cl s H fp,PE (B5 X ([y]++[x]) scope cl Cl s H fp) (.Call (.Attribute (.Name x p1) "get" apos) [.Name y p2] [] cP) (a6U X):=λcl Cl s0 H0 fp pins s U H Q I h=>by
  refine he cl Cl s0 H0 fp pins s U H Q I ?_;obtain⟨v,h1,h2,w,h3,p,es,kt,k,y,h4,h5,h6,⟨k1,k2,k3⟩,h7,h8⟩:=h;exact⟨v,h1,h2,w,h3,p,es,kt,k,y,h4,h5,h6,⟨k1,k2,k3⟩,h7,h8⟩
 obtain⟨wi,pi,qi⟩:=C6 (tg:=.Name y p3) (p:=rp) (pos:=p4) Dv ha DS Ee zx;refine⟨_,a2X (tn:=[y]) (ys:=[x]) (js:=[i]) (tt:=a3x) (te:=a6U X) hc pi C hg (λ_ _ _ _ _=>a9O) he hs,λMp Zp Up Z U H P F d Q S hf k=>?_⟩;obtain⟨dn,h1,g1⟩:=bnd hf;obtain⟨n,h2,g2⟩:=bnd g1;cases M7 h2
 obtain⟨l1,l2,S0⟩:=S;cases hZ:Z.getD i .none with
 |dict kvs=>
  rw[hZ]at g2;have g3:(if 0<=n/\n<=1000000 then cz (b_ ((l7 0 n.toNat).map λk=>(v6 kvs k).getD .none)) else xn)=cz d:=g2;by_cases c:0<=n/\n<=1000000
  ·rw[aB c]at g3;cases g3
   refine qi Z U H P F (l7 0 n.toNat) _ (Pend.e ⟨l1,l2,S0⟩) (b1k h1 c.1 (by lia)) λJ xs Pr H1 e1 hw qw hx Dl hD=>?_
   have S1:=S0.grow e1;have uQ:Dl∉F:=λz=>by obtain⟨zs,w⟩:=S1.lst Dl z;rw[hD]at w;cases w
   obtain⟨G,a1,a2,a3⟩:=S1.all;obtain⟨G1,G2,rfl,a4,a5⟩:=a1.splitAt l1 l2;obtain⟨dd,oo,f,pre,post,q1,q2,⟨v2,rfl,q3⟩,rfl,q5⟩:=a5.at_ hm;obtain⟨b,es,ds,fs,rfl,r2,r3,rfl,r5,r6,hl,hn⟩:=q3.dict;have qY:dd=.dict kvs:=by rw[<-hZ,A1 q1]
   rw[qY]at r3
   injection r3 with r3
   have Bm:b≠Dl:=λz=>by rw[z,hD]at r2;cases r2
   have nJ:∀(j:Nat) (x:V),xs[j]?=cz x->x=V.int (j:Int)/\(l7 0 n.toNat)[j]?=cz (aK (j:Int)):=λj x hj=>by
    obtain⟨dj,z1,z2⟩:=hx.getV hj;have z3:=z1;unfold l7 at z3;rw[aQ]at z3;obtain⟨m,z4,z5⟩:=eu.mp z3;have xy:m=j:=by
     have jk:=(aM.mp z4).1;rw[bF]at jk;rw[fT jk]at z4;exact (aH z4).symm
    subst xy;have z6:aK (0+(m:Int))=dj:=z5;rw[Int.zero_add]at z6;subst z6;exact⟨z2.int_inv,z1⟩
   have om:=hx.length;refine a1u (tt:=a3x) (te:=a6U X) (g:=D0 0) (R:=λH'=>Q (.ref Dl) H') hw (λj ys U' H'=>(∃w,U'=[w,cz (.ref b)])/\H'=upd H1 Dl (.lst ys)/\ys=((l7 0 n.toNat).take j).map (valAt es)/\ys.length<=j) ?_ ?_ ?_ ?_
   ·refine⟨⟨xn,?_⟩,rfl,rfl,ay _⟩;show [xn]++[(U[i]?).getD xn]=_;rw[q2];rfl
   ·rintro j ys U' H' ⟨_,rfl,_⟩;refine qw _ (λz o hz=>?_);obtain⟨n1,n2⟩:=m8 hz;rw[c7 (λe=>by rw[e,hD]at n2;cases n2)];exact n2
   ·rintro j x ys U' H' CP ⟨⟨w,rfl⟩,rfl,vq,qg⟩;obtain⟨rfl,yU⟩:=nJ j x CP;have rO:=(aM.mp yU).1;have DL:(l7 0 n.toNat).length=n.toNat:=by simp[l7]
    have fin:∀v,v=valAt es (.int (j:Int))->(upd H1 Dl (.lst ys)) Dl=cz (.lst ys)/\ys.length<aZ/\(∃w,[cz (V.int (j:Int)),cz (.ref b)]=[w,cz (.ref b)])/\upd (upd H1 Dl (.lst ys)) Dl (.lst (ys++[v]))=upd H1 Dl (.lst (ys++[v]))/\ys++[v]=((l7 0 n.toNat).take (j+1)).map (valAt es)/\(ys++[v]).length<=j+1:=λv hv=>by
     refine⟨f8,fZ (cF qg (by lia)) (show 1000000<aZ by rw[cX];decide),⟨_,rfl⟩,b5A ..,?_,by rw[aA];simp;lia⟩;rw[BW,yU,aO,<-vq,hv];rfl
    unfold D0 a3x;refine a5x ?_;refine⟨.ref b,rfl,⟨b,es,rfl,by rw[c7 Bm];exact r2⟩,.int (j:Int),rfl,b,es,yp,.int (j:Int),.int (j:Int),rfl,rfl,by rw[c7 Bm];exact r2,⟨λe he=>⟨(r5 e he).1,?_⟩,L1 rfl,den_int⟩,λhf=>?_,λe he gy=>?_⟩
    ·exact ((r5 e he).2.up j9).up λz o hz=>by rw[c7 (λq=>by rw[q,hD]at hz;cases hz)];exact hz
    ·refine fin .non ?_;unfold valAt;rw[a3w.mpr hf]
    ·refine fin e.2.2 ?_;have heq:aF e.1 (.int (j:Int))=yn:=(D5 e.1 _ (r5 e he).1.1 rfl).mpr gy;unfold valAt;cases xA:F7 es (.int (j:Int)) with
     |none=>
      have:=a3w.mp xA;unfold A9 at this;rw[eA]at this;exact absurd heq (this e he)
     |some i0=>
      obtain⟨e0,z1,z2⟩:=T7 xA;have z3:=(D5 e0.1 _ (r5 e0 (bt z1)).1.1 rfl).mp z2;have z4:=b3J hn he (bt z1) (gy.trans z3.symm);show _=((es.map (·.2.2))[i0]?).getD .non;rw[aQ,z1,z4];rfl
   ·rintro ys U' H' ⟨_,rfl,vq,_⟩;have vp:ys=(l7 0 n.toNat).map (valAt es):=by
     rw[vq,om,oO]
    have qW:fs.Nodup:=by
     have:=(bu.mp (bu.mp (bu.mp a2).2.1).2.1).1;exact (bY.mp this).2
    obtain⟨jM,w1,w2,w3⟩:=b1E oY hl (λe he=>(r5 e he).1) hn r6 qW n.toNat;have gQ:Same (cut H1 F) (cut (upd H1 Dl (.lst ys)) (Dl::F)):=λz o hz=>by
     obtain⟨n1,n2⟩:=m8 hz;have AL:z≠Dl:=λe=>by rw[e,hD]at n2;cases n2
     exact i9 (λq=>by rcases aD.mp q with q|q;exact AL q;exact n1 q) (by rw[c7 AL];exact n2)
    have keep:∀z∈F,upd H1 Dl (.lst ys) z=H1 z:=λz hz=>c7 λe=>uQ (e▸hz)
    have F_:∀z∈G1++(pre++(b::fs++post)),z∈F:=a3;have wd:∀z∈fs,z∈F:=λz hz=>a3 z (by simp[hz])
    have own:Own X.K (upd H1 Dl (.lst ys)) (Dl::F) (.l u) (.ref Dl) (.list ((l7 0 n.toNat).map λk=>(v6 kvs k).getD .none)) (Dl::jM):=by
     simp only[Own];refine .inr ⟨Dl,ys,_,jM,rfl,f8,rfl,rfl,?_⟩;have hd:((l7 0 n.toNat).map λk=>(v6 kvs k).getD .none)=(l7 0 n.toNat).map (a4V es ds):=by
      refine bH λk _=>?_
      rw[a4W k hl,r3]
     rw[hd,vp];rw[vp]at gQ keep;exact l5 gQ w1 λz hz=>keep z (wd z (w3 z hz))
    have q:=q5 (upd H1 Dl (.lst ys)) (Dl::F) .dead dd (cz (.ref b)) [] (λz hz=>keep z (a3 z (by
     rcases ao.mp hz with y|y
     ·exact ah _ (aj _ y)
     ·exact ah _ (ah _ (ah _ y))))) gQ rfl
    rw[set_same q1,set_same q2]at q;have qj:=(a4.frame gQ λz hz=>keep z (a3 z (aj _ hz))).join (i7 (m:=.own (.l u)) (d:=.list ((l7 0 n.toNat).map λk=>(v6 kvs k).getD .none)) (o:=cz (.ref Dl)) (f:=Dl::jM) ⟨_,rfl,own⟩ q);refine k (.ref Dl) _ (Dl::F) (e1.trans (k8 hD _)) ⟨by simp[l1],by simp[l2],⟨⟨G1++(Dl::jM++(pre++([]++post))),by simpa using qj,?_,λz hz=>?_⟩,λz hz=>?_,S1.prot.trans gQ⟩⟩
    ·refine du.mpr λz=>?_
     have c1:=du.mp a2 z;have c2:jM.count z<=fs.count z:=by
      by_cases hz:z∈jM
      ·have y1:=du.mp w2 z;have y2:=fA.mpr (w3 z hz);lia
      ·rw[fB.mpr hz];lia
     by_cases hz:z=Dl
     ·subst hz;have y:(G1++(pre++(b::fs++post))).count z=0:=fB.mpr λy=>uQ (a3 z y)
      simp only[bG,bp,eF,bx,oM,nI]at c1 y ⊢;lia
     ·have qf:(Dl==z)=yp:=fS.mpr λe=>hz e.symm
      simp only[bG,bp,eF,bx,qf,br,dh]at c1 ⊢;lia
    ·simp only[ao,aD,bp,bx]at hz ⊢;rcases hz with y|y|y|y|y
     ·exact .inr (a3 z (by simp[y]))
     ·exact .inl y
     ·exact .inr (wd z (w3 z y))
     ·exact .inr (a3 z (by simp[y]))
     ·exact .inr (a3 z (by simp[y]))
    ·by_cases e:z=Dl
     ·subst e;exact⟨⟨.lst ys,trivial⟩,f8⟩
     ·rcases aD.mp hz with y|y
      ·exact absurd y e
      ·obtain⟨zs,w⟩:=S1.lst z y;exact⟨zs,by rw[c7 e];exact w⟩
  ·rw[aJ c]at g3;cases g3
 |_=>rw[hZ]at g2;cases g2
end
def frz:Md->Md
 |.own .i=>.own .i
 |.own _=>.own .f
 |m=>m
def b3K(h:SlotR K H F m o d f):SlotR K H [] (frz m) o d []:=by
 have hc:Same (cut H F) (cut H []):=λa x ha=>i9 (by simp) (j9 a x ha)
 have key:∀u:Ty,(∃v,o=cz v/\Own K H F u v d f)->SlotR K H [] (.own .f) o d []:=λu ⟨v,e,q⟩=>⟨v,e,by
  have hd:Den K H v d:=q.den;simp only[Own];exact⟨trivial,hd.up λa x ha=>i9 (by simp) ha⟩⟩
 cases m with
 |dead=>rfl
 |own u=>
  cases u with
  |i=>
   obtain⟨v,e,q⟩:=h;refine⟨v,e,?_⟩;simp only[Own]at q ⊢;exact⟨trivial,q.2.1,q.2.2.up hc⟩
  |f=>exact key _ h
  |l u=>exact key _ h
  |tp us=>exact key _ h
  |d kt u=>exact key _ h
 |exc=>obtain⟨_,h2⟩:=h.frame (H':=H) (F':=[]) hc λ_ _=>rfl;exact⟨rfl,h2⟩
 |keys kt=>obtain⟨_,h2⟩:=h.frame (H':=H) (F':=[]) hc λ_ _=>rfl;exact⟨rfl,h2⟩
 |pin v=>exact⟨rfl,h.2⟩
 |fn Φ=>obtain⟨_,h2⟩:=h.frame (H':=H) (F':=[]) hc λ_ _=>rfl;exact⟨rfl,h2⟩
theorem a4X:∀{M:List Md} {Z:List D} {U:L2.St} {G:List av},StAll K H F M Z U G->StAll K H [] (M.map frz) Z U []
 |[],_,_,_,h=>by simp only[StAll]at h;obtain⟨rfl,rfl,_⟩:=h;exact L7
 |m::M,_,_,_,h=>by
  simp only[StAll]at h;obtain⟨d,Z,o,U,f,g,rfl,rfl,rfl,h1,h2⟩:=h;exact i7 (f:=[]) (g:=[]) (b3K h1) (a4X h2)
theorem StE.frz{K:ag}{M:List Md}{Z:List D}{U:L2.St}{H P:Hp}{F:List av}(S:StE K M Z U H P F):StE K (M.map frz) Z U H P []:=by
 obtain⟨G,h1,_⟩:=S.all;exact⟨⟨[],a4X h1,λa ha=>(nomatch ha)⟩,λa ha=>(nomatch ha),S.prot.trans λa x ha=>i9 (by simp) (j9 a x ha)⟩
section
variable {X:Cx}{M M0 ML:List Md}{t w:Ty}{pos:fW}
def a6V(i:Nat)(hM:M.map VS.frz=M0)(hN:X.N.Nodup)(hc:X.calm=yn)
  (hi:PIX X M0 tg iter fi) (C:K5 scope X.env.kindOf ys js X.N=yn) (hg:∀cl Cl s H fp,PG (B5 X (tn++ys) scope cl Cl s H fp) tg g) (wa:TgR X.K g n pt) (uG:mm=.i\/mm=.f)
  (qU:mm=.i->∀Z ds,fi Z=cz ds->∀d∈ds,∀bs,pt d=cz bs->c9 bs=yn) (tE:tn.length=n)
  (ht:∀cl Cl s H fp,PTs (B5 X (tn++ys) scope cl Cl s H fp) ifs (spT X.K (E1 (.own mm) n M0 js) ft)) (he:∀cl Cl s H fp,PX (B5 X (tn++ys) scope cl Cl s H fp) (E1 (.own mm) n M0 js) elt fe (.new t))
  (hu:(Ty.l t).shut=yn:=by rfl) (nJ:X.N[i]?=cz x:=by rfl) (hx:autoParam (Loc X.env.scope x) ZX._auto_1) (hm:M[i]?=cz m:=by rfl)
  (oF:eR (.ListComp elt [⟨tg,iter,ifs,0⟩] scope cps) (cz (.Name x px)) pos.line X.env=pure yn:=by rfl) (hs:∀x,dM iter X.env x=pure x:=by intro _;rfl)
  (hf:autoParam (X.fn x=yn\/X.env.scope.names.lookup x=cz .local) ZW._auto_1) :
  PSX X w ML M (.Assign [.Name x px] (.ListComp elt [⟨tg,iter,ifs,0⟩] scope cps) pos) (j5 i (n9 fi js pt ft fe)) (M.set i (.own (.l t))):=by
 subst hM;obtain⟨wi,pi,qi⟩:=hi;refine .mk ⟨_,a1W (te:=spE X.K (E1 (.own mm) n (M.map VS.frz) js) fe (.new t)) hc hN nJ hx pi C hg ht he oF hs hf,λD Z U H P F o S sF k=>?_⟩;obtain⟨d,h1,g1⟩:=bnd sF;cases g1
 refine a1v qi wa uG qU tE S.toE.frz h1 λv H' e ⟨fp,o,nd,fr⟩=>k _ _ _ (S.set hm e (o.shut_out (λa ha=>?_) (.l t) hu) nd fr)
 rcases ao.mp ha with z|z
 ·exact o.lst _ a z
 ·exact S.toE.lst' e a z
end
section
variable {K:ag}{M:List Md}{Z:List D}{U:L2.St}{H P:Hp}{F:List av}{i j:Nat}{t:Ty}{ds es:List D}
def StR.extendL(gO:i≠j)(h:StR K M Z U H P F)(hi:M[i]?=cz (.own (.l t)))(hj:M[j]?=cz (.own (.l t)))(Bs:Z.getD i .none=.list ds)(Br:Z.getD j .none=.list es) :
  ∃a b xs zs,U[i]?=cz (cz (.ref a))/\U[j]?=cz (cz (.ref b))/\H a=cz (.lst xs)/\H b=cz (.lst zs)/\xs.length=ds.length/\zs.length=es.length/\StR K (M.set j .dead) (Z.set i (.list (ds++es))) U (upd H a (.lst (xs++zs))) P F/\Den K (upd H a (.lst (xs++zs))) (.ref b) (.list es):=by
 obtain⟨G,h1,h2,h3⟩:=h.all;obtain⟨dj,oj,fj,rC,oU,BL,xQ,⟨vj,rfl,Oj⟩,zZ,EO⟩:=h1.at_ hj;rw[A1 BL]at Br;subst Br;simp only[Own]at Oj;rcases Oj with⟨_,mO,_⟩|⟨b,zs,jn,gs,rfl,uO,mi,rfl,Bw⟩
 ·simp only[imm]at mO;cases mO
 cases mi
 rw[zZ]at h2;have q1:=EO H F .dead (.list es) (cz (.ref b)) [] (λ_ _=>rfl) (Same.refl _) rfl;rw[set_same BL,set_same xQ]at q1;have xy:(M.set j .dead)[i]?=cz (.own (.l t)):=by rw[bI (cR gO)];exact hi
 obtain⟨di,oi,f1,p_,nG,ET,xR,⟨vi,rfl,Oi⟩,ES,ER⟩:=q1.at_ xy;rw[A1 ET]at Bs;subst Bs;simp only[Own]at Oi;rcases Oi with⟨_,mO,_⟩|⟨a,xs,jC,fi,rfl,sJ,jX,rfl,Bx⟩
 ·simp only[imm]at mO;cases mO
 cases jX
 have rX:rC++oU=p_++((a::fi)++nG):=by simpa using ES
 have apart:=a1t h2;have iW:∀x∈rC++oU,x∈F:=λx hx=>h3 x (by rw[zZ];exact mem_mid hx)
 have tZ:a∈rC++oU:=by rw[rX];simp
 have rR:a≠b:=λz=>apart b aL (by rw[<-z];exact tZ)
 have wD:a∈F:=iW a tZ;have rP:Same (cut H F) (cut (upd H a (.lst (xs++zs))) F):=λc o' xG=>by
  obtain⟨r1,r2⟩:=m8 xG;have ne:c≠a:=λz=>r1 (by rw[z];exact wD)
  exact i9 r1 (by rw[c7 ne];exact r2)
 have vK:(p_++((a::fi)++nG)).Nodup:=by rw[<-rX];exact P8 h2
 have wB:a∉fi++nG:=by
  have:=(bu.mp vK).2.1;rw[bp,bY]at this;exact this.1
 have wA:a∉p_:=λz=>(bu.mp vK).2.2 a z a (by simp) rfl
 have zK:a∉gs:=λz=>apart a (aw _ z) tZ
 have LB:ListAll (Own K (upd H a (.lst (xs++zs))) F t) zs es gs:=Bw.imp λv d f hf _ q=>q.frame rP t λx hx=>c7 λz=>zK (by rw[<-z];exact hf x hx)
 have LA:ListAll (Own K (upd H a (.lst (xs++zs))) F t) xs ds fi:=Bx.imp λv d f hf _ q=>q.frame rP t λx hx=>c7 λz=>wB (aj _ (by rw[<-z];exact hf x hx))
 have own:Own K (upd H a (.lst (xs++zs))) F (.l t) (.ref a) (.list (ds++es)) (a::(fi++gs)):=by
  simp only[Own];exact .inr ⟨a,xs++zs,ds++es,fi++gs,rfl,f8,rfl,rfl,LA.append LB⟩
 have q2:=ER _ _ (.own (.l t)) (.list (ds++es)) (cz (.ref a)) (a::(fi++gs)) (λx hx=>c7 λz=>by
  rcases ao.mp hx with y|y
  ·exact wA (by rw[<-z];exact y)
  ·exact wB (ah _ (by rw[<-z];exact y))) rP ⟨_,rfl,own⟩
 rw[set_same xy,set_same xR]at q2;have oI:∀x,(rC++oU).count x=(p_++((a::fi)++nG)).count x:=λx=>by rw[rX]
 refine⟨a,b,xs,zs,xR,xQ,sJ,uO,Bx.length,Bw.length,⟨⟨_,q2,X0 h2 λx=>?_,λx hx=>?_⟩,λx hx=>?_,h.prot.trans rP⟩,den_list (.inl (.inl (by rw[c7 (cR rR)];exact uO))) (ListAll.den (λv d f q=>q.den) LB)⟩
 ·have:=oI x;simp only[bG,bp,eF]at this ⊢;lia
 ·have vw:x∈p_++((a::fi)++nG)\/x∈gs:=by
   simp only[ao,aD,bp]at hx ⊢;rcases hx with z|z|(z|z)|z
   ·exact .inl (.inl z)
   ·exact .inl (.inr (.inl z))
   ·exact .inl (.inr (.inr (.inl z)))
   ·exact .inr z
   ·exact .inl (.inr (.inr (.inr z)))
  rcases vw with z|z
  ·exact iW x (by rw[rX];exact z)
  ·exact h3 x (by rw[zZ];simp[z])
 ·by_cases z:x=a
  ·exact⟨⟨.lst (xs++zs),trivial⟩,by rw[z,f8]⟩
  ·rw[c7 z];exact h.lst x hx
end
noncomputable def a2f(i j:Nat):EvS:=λZ=>match Z.getD i .none,Z.getD j .none with
 |.list ds,.list es=>if ds.length+es.length<=1000000 then cz (.nx (Z.set i (.list (ds++es)))) else xn
 |_,_=>xn
section
variable {X:Cx}{M M1 ML:List Md}{w t:Ty}{e iter:Expr}{f:EvE}{fi:EvA}{x y z:bE}{px py pz pm pos nH vf apos cP:fW}
def b6C(i j jm:Nat)(gO:i≠j)(xC:j≠jm)(DO:i≠jm)(hM:M=(M1.set j .dead).set jm .dead)(hc:X.calm=yn)(hp:ow (aV X.prog X.w) X.A X.env X.xe)(xK:X.N.Nodup)(hi:PIX X M1 (.Name z pm) iter fi)(hL:PXL X M j e f (.new (.l t)))
  (vP:M1[i]?=cz (.own (.l t)):=by rfl) (uH:M1[j]?=cz (.own (.l t)):=by rfl) (uG:M1[jm]?=cz mm:=by rfl) (xJ:X.N[i]?=cz x:=by rfl) (xI:X.N[j]?=cz y:=by rfl) (EB:X.N[jm]?=cz z:=by rfl)
  (tz:autoParam (Vis X.env.scope x) ZY._auto_1) (nO:autoParam ((x==("__debug__":bE))=yp) ZV._auto_1) (zF:autoParam ((x==("__classdict__":bE))=yp) ZV._auto_1)
  (yK:autoParam (Vis X.env.scope y) ZY._auto_1) (zB:autoParam ((y==("__debug__":bE))=yp) ZV._auto_1) (zE:autoParam ((y==("__classdict__":bE))=yp) ZV._auto_1)
  (DD:autoParam (Loc X.env.scope y) ZX._auto_1) (xE:autoParam (X.fn y=yn\/X.env.scope.names.lookup y=cz .local) ZW._auto_1)
  (DB:autoParam (Loc X.env.scope z) ZX._auto_1) (DZ:autoParam (X.fn z=yn\/X.env.scope.names.lookup z=cz .local) ZW._auto_1)
  (fJ:dY (.Name x px) "extend" X.env (cK (.Name x px) X.env)=cK (.Name x px) X.env:=by rfl)
  (iK:((cM cP (au [.Name y py] X.env)).all (λx=>!x.1)&&(eX cP (dD [] X.env)).all (λx=>x.1.isSome)
   && decide (([.Name y py]:List Expr).length+([]:List eO).length+(if ([]:List eO).isEmpty then 0 else 1)<30))=yn:=by rfl)
  (fI:(apos.endLine==cP.line)=yn:=by rfl) (hs:au [.Name y py] X.env=(yp,cK (.Name y py) X.env)::au [] X.env:=by rfl) (eJ:(cM cP (au [] X.env)).any (·.1)=yp:=by rfl)
  (oF:eR (.Call (.Attribute (.Name x px) "extend" apos) [.Name y py] [] cP) xn vf.line X.env=pure yp:=by rfl) (tF:eR e (cz (.Name y pz)) nH.line X.env=pure yp:=by rfl)
  (hf:∀x,dM iter X.env x=pure x:=by intro _;rfl) :
  PSX X w ML M1 (.For (.Name z pm) iter [.Assign [.Name y pz] e nH,.Expr (.Call (.Attribute (.Name x px) "extend" apos) [.Name y py] [] cP) vf] [] pos) (A7 fi (r9 jm) (f7 (j5 j f) (a2f i j))) M:=by
 obtain⟨wi,pi,qi⟩:=hi;obtain⟨te,pe,qe⟩:=hL;have lm:jm<M1.length:=(aM.mp uG).1;have lj:j<M1.length:=(aM.mp uH).1;have EE:M[i]?=cz (.own (.l t)):=by rw[hM,bI (cR DO),bI (cR gO)];exact vP
 have zP:M[j]?=cz .dead:=by rw[hM,bI (cR xC),dO lj]
 have Bv:M[jm]?=cz .dead:=by rw[hM,dO (by rw[gU];exact lm)]
 refine .mk ⟨_,a7M hp hc pi (o6 xK EB DB DZ) (a0L (a7K xK xI DD pe tF xE) (a9q (R8 (a4F eS r_ rZ a4G (y8 xJ tz nO zF) (l0 (y8 xI yK zB zE) p9 hs) fJ iK fI hs eJ) oF))) hf,λE Z U H P F o S tS k=>?_⟩;obtain⟨ds,h1,g1⟩:=bnd tS;refine qi Z U H P F ds _ S.toE h1 λJ xs Pr H1 e1 hw qw hx=>?_
 have S1:=S.grow e1;have om:=hx.length;obtain⟨v0,f0,qm,o0,_⟩:=S1.toE.get uH;have S0:StR X.K M Z U H1 P F:=by
  rw[hM];exact (S1.dead uH).dead (m:=mm) (by rw[bI xC];exact uG)
 refine⟨λn m U' H'=>m=xs.length-n/\n<=xs.length/\∃Z' F' v,StR X.K M Z' U' H' (cut H1 F) F'/\U'[j]?=cz (cz v)/\Den X.K H' v (Z'.getD j .none)/\V8 (r9 jm) (f7 (j5 j f) (a2f i j)) (ds.drop n) Z'=cz o,⟨xs.length,by simp,cG _,Z,F,v0,⟨S0.all,S0.lst,Same.refl _⟩,qm,o0.den,g1⟩,?_⟩;rintro n m U' H' ⟨rfl,hn,Z',F',v,S',hv,kT,hfl⟩;have q:=qw H' (S'.prot.trans j9);by_cases jk:n<xs.length
 ·refine .inr ⟨hw.go n H' q jk,λU2 H2=>∃Z2 F2 v2,StR X.K M Z2 U2 H2 (cut H1 F) F2/\U2[j]?=cz (cz v2)/\Den X.K H2 v2 (Z2.getD j .none)/\V8 (r9 jm) (f7 (j5 j f) (a2f i j)) (ds.drop (n+1)) Z2=cz o,λU2 H2 zz=>⟨xs.length-(n+1),by lia,rfl,jk,zz⟩,λvx H2 hy=>?_⟩;obtain⟨rfl,nJ⟩:=hw.yld n H' vx H2 q jk hy;have mh:n<ds.length:=by lia
  rw[dA mh]at hfl;obtain⟨Z1,sA,g2⟩:=bnd (show (r9 jm Z' ds[n]).bind _=cz o from hfl);cases sA
  obtain⟨o1,hg1,g3⟩:=bnd g2;obtain⟨oa,Et,Es⟩:=bnd (show (j5 j f (Z'.set jm ds[n])).bind _=cz o1 from hg1);obtain⟨dy,wc,Dk⟩:=bnd (show (f (Z'.set jm ds[n])).bind (λd=>cz (Out.nx ((Z'.set jm ds[n]).set j d)))=cz oa from Et);cases Dk
  have S2:=S'.kill Bv ds[n] (cz vx);rw[set_same Bv]at S2;have uD:(U'.set jm (cz vx))[j]?=cz (cz v):=by rw[bI (cR xC)];exact hv
  have hd2:(Z'.set jm ds[n]).getD j .none=Z'.getD j .none:=by rw[af,bI (cR xC),af]
  refine qe _ (U'.set jm (cz vx)) H2 (cut H1 F) F' dy v _ S2.toE uD (by rw[hd2];exact kT) wc λvy H3 e3 ⟨fp,o3,n3,f3⟩=>?_
  have S3:=S2.set zP e3 o3 n3 f3;have zQ:(M.set j (.own (.l t)))[i]?=cz (.own (.l t)):=by rw[bI (cR gO)];exact EE
  have zO:(M.set j (.own (.l t)))[j]?=cz (.own (.l t)):=dO (aM.mp zP).1;have zw:∃es fs,((Z'.set jm ds[n]).set j dy).getD i .none=.list es/\((Z'.set jm ds[n]).set j dy).getD j .none=.list fs/\es.length+fs.length<=1000000/\o1=.nx (((Z'.set jm ds[n]).set j dy).set i (.list (es++fs))):=by
   have pK:a2f i j ((Z'.set jm ds[n]).set j dy)=cz o1:=Es;unfold a2f at pK;generalize ((Z'.set jm ds[n]).set j dy).getD i .none=d1 at pK;generalize ((Z'.set jm ds[n]).set j dy).getD j .none=d2 at pK;cases d1 with
   |list es=>
    cases d2 with
    |list fs=>
     have h':(if es.length+fs.length<=1000000 then cz (Out.nx (((Z'.set jm ds[n]).set j dy).set i (.list (es++fs)))) else xn)=cz o1:=pK;by_cases cc:es.length+fs.length<=1000000
     ·rw[aB cc]at h';exact⟨es,fs,rfl,rfl,cc,(aH h').symm⟩
     ·rw[aJ cc]at h';cases h'
    |_=>cases pK
   |_=>cases pK
  obtain⟨es,fs,Ec,qW,kN,rfl⟩:=zw;obtain⟨a,b,uv,xg,tm,rD,sJ,uO,l1,l2,S4,D4⟩:=S3.extendL gO zQ zO Ec qW;have hz:aZ=16777216:=cX;refine⟨.ref a,tm,.inl ⟨rfl,uv,SqL.of sJ⟩,.ref b,rD,a,b,uv,xg,rfl,rfl,sJ,uO,by lia,?_⟩;rw[ui,set_same zP]at S4;refine⟨_,_,.ref b,S4,rD,?_,g3⟩;rw[af,bI gO,<-af,qW];exact D4
 ·have e:n=xs.length:=by lia
  subst e;rw[om,gI]at hfl;have:o=.nx Z':=(aH hfl).symm;subst this;exact .inl ⟨hw.stop _ H' q (ay _),k U' H' F' ⟨S'.all,S'.lst,S0.prot.trans S'.prot⟩⟩
end
noncomputable def a6W(i:Nat)(f:EvE):EvS:=λZ=>(f Z).bind λd=>match d,Z.getD i .none with
 |.list es,.list ds=>if ds.length+es.length<=1000000 then cz (.nx (Z.set i (.list (ds++es)))) else xn
 |_,_=>xn
section
variable {X:Cx}{t w:Ty}{ML M:List Md}{e:Expr}{f:EvE}{pos apos cP:fW}{x:bE}{px:fW}
def b6D(i:Nat)(he:PX X M e f (.new (.l t)))(hm:M[i]?=cz (.own (.l t)):=by rfl)(hN:X.N[i]?=cz x:=by rfl)(hv:autoParam (Vis X.env.scope x) ZY._auto_1)(hd:autoParam ((x==("__debug__":bE))=yp) ZV._auto_1)
  (iC:autoParam ((x==("__classdict__":bE))=yp) ZV._auto_1)
  (fJ:dY (.Name x px) "extend" X.env (cK (.Name x px) X.env)=cK (.Name x px) X.env:=by rfl)
  (iK:((cM cP (au [e] X.env)).all (λx=>!x.1)&&(eX cP (dD [] X.env)).all (λx=>x.1.isSome)
   && decide ([e].length+([]:List eO).length+(if ([]:List eO).isEmpty then 0 else 1)<30))=yn:=by rfl)
  (fI:(apos.endLine==cP.line)=yn:=by rfl) (hs:au [e] X.env=(yp,cK e X.env)::au [] X.env:=by rfl) (eJ:(cM cP (au [] X.env)).any (·.1)=yp:=by rfl)
  (oF:eR (.Call (.Attribute (.Name x px) "extend" apos) [e] [] cP) xn pos.line X.env=pure yp:=by rfl) :
  PSX X w ML M (.Expr (.Call (.Attribute (.Name x px) "extend" apos) [e] [] cP) pos) (a6W i f) M:=by
 obtain⟨te,pe,qe⟩:=he.out;refine .mk ⟨_,R8 (a4F eS r_ rZ a4G (y8 hN hv hd iC) (l0 pe p9 hs) fJ iK fI hs eJ) oF,λD Z U H P F o S hg k=>?_⟩;obtain⟨d,h3,g3⟩:=bnd hg;have hl:∃es ds,d=.list es/\Z.getD i .none=.list ds/\ds.length+es.length<=1000000/\o=.nx (Z.set i (.list (ds++es))):=by
  cases d with
  |list es=>
   cases hr:Z.getD i iG with
   |list ds=>
    rw[hr]at g3;have xN:(if ds.length+es.length<=1000000 then cz (Out.nx (Z.set i (.list (ds++es)))) else xn)=cz o:=g3;by_cases c:ds.length+es.length<=1000000
    ·rw[aB c]at xN;exact⟨es,ds,rfl,rfl,c,(aH xN).symm⟩
    ·rw[aJ c]at xN;cases xN
   |_=>rw[hr]at g3;cases g3
  |_=>cases g3
 obtain⟨es,ds,rfl,hr,hz,rfl⟩:=hl;obtain⟨v0,f0,e0,o0,Ck⟩:=S.toE.get hm;rw[hr]at o0;simp only[Own]at o0;rcases o0 with⟨_,hi,_⟩|⟨b,xs,jC,fs,rfl,hH,jX,rfl,hL⟩
 ·simp only[imm]at hi;cases hi
 cases jX
 refine⟨.ref b,e0,.inl ⟨rfl,xs,SqL.of hH⟩,qe Z U H P F _ _ S.toE h3 λv1 H1 e1 ⟨fp,o1,nd,fr⟩=>?_⟩;obtain⟨_,_,S1⟩:=S.pend.new e1 o1 nd fr;have Fd:StR X.K (.own (.l t)::M) (.list es::Z) (cz v1::U) H1 P (fp++F):=S1;obtain⟨a,b',uv,xg,tm,rD,sJ,uO,l1,l2,S4,_⟩:=Fd.extendL (i:=i+1) (j:=0) (by lia) (by simpa using hm) rfl (by simpa using hr) rfl;have ea:b=a:=by
  have:(cz (cz (V.ref b)):Option (Option V))=cz (cz (.ref a)):=by rw[<-e0];simpa using tm
  cases this;rfl
 subst ea;cases (show (cz (cz v1):Option (Option V))=cz (cz (.ref b')) from rD)
 have rE:uv=xs:=by rw[e1 _ _ hH]at sJ;cases sJ;rfl
 subst rE;have kN:aZ=16777216:=cX;refine⟨b,b',uv,xg,rfl,rfl,sJ,uO,by lia,k U _ (fp++F) ?_⟩;obtain⟨G,q1,q2,q3⟩:=S4.all;have Az:StAll X.K (upd H1 b (.lst (uv++xg))) (fp++F) (.dead::M) (.list es::Z.set i (.list (ds++es))) (cz (.ref b')::U) G:=q1;simp only[StAll]at Az;obtain⟨d,Z',o',U',f',g',z1,z2,rfl,z4,z5⟩:=Az;cases z1
 cases z2
 have B_:f'=[]:=z4;subst B_;exact⟨⟨g',z5,by simpa using q2,λa ha=>q3 a (by simpa using ha)⟩,S4.lst,S4.prot⟩
end
end VS
namespace VS
open PySem PySem.Spec L2
open PyProof.Rows (KeyOrd mirror bubble getElem?_mirror_all getElem?_bubble mirror_perm bubble_perm)
open PySem.W (KasT kas_asc kas_desc kas_rev kas_tail3 kas_descPart kas_count kas_place kas_bin kas_sort)
section
variable {O:KeyOrd}{key:Nat->O.α}{N:Nat}{sh:ar}{cmp:Nat->Nat->(Bool->ar->Prop)->ar->Prop}
def kyP(key:Nat->O.α)(p:Array Nat)(i:Nat):O.α:=key (p.getD i 0)
def b1G(key:Nat->O.α)(p:Array Nat)(k:Nat):Prop:=∀i j,i<=j->j<k->O.kle (kyP key p i) (kyP key p j)
def AllN(N:Nat)(p:Array Nat):Prop:=p.toList.Perm (az N)
theorem AllN.size(h:AllN N p):p.size=N:=by
 have:=h.length_eq;simpa using this
end
end VS
namespace PySem
open Sem (wp)
set_option maxRecDepth 100000
def Heap.RawDict(hp:cS)(d:av)(rows:Array hJ)(ep:Nat):Prop:=∃u,hp.get? d=cz u/\u.ExactDict/\u.data=.dict rows ep
section
variable {prog:bB}{w:bZ}{A:bS}{E:ak->ar->Prop}{sh:ar}{d it:av}{rows:Array hJ}{ep i:Nat}
def Heap.RawDict.at{h h':cS}(x:h.RawDict d rows ep)(e:∀o,h.get? d=cz o->h'.get? d=cz o):h'.RawDict d rows ep:=let⟨u,hu,r⟩:=x;⟨u,e _ hu,r⟩
def Heap.RawDict.typeIs(x:sh.heap.RawDict d rows ep):sh.TypeIs (.ref d) "dict":=let⟨u,hu,r,_⟩:=x;⟨u,hu,r.1⟩
def b3L(h0:(d==dr)=yp)(hm:sh.heap.RawDict d rows ep)
  (q:Q (.ref sh.heap.objs.size) {sh with heap:=sh.heap.push {cls:=.type "dict_keyiterator",data:=.fields #[.ref d,.int 0 0,.int rows.size 0,.int ep 0]}}) :
  aX (aV prog w) A (pyIter (.ref d)) Q E sh:=by
 obtain⟨u,hu,hx,kK⟩:=id hm;refine wpAny_pyIter_slot hm.typeIs F.slot_dict_iter (et F.slot_dict_iter hm.typeIs F.entry_dict_iter ?_ (F.args_dict_iter_1 _));unfold Builtin.«dict.__iter__»;refine ae ?_;unfold Builtin.Dict.dictSlotNone;refine ae (mW hm.typeIs ?_);show aX _ _ (pure (bM d)) _ _ sh;refine aE ?_;show aX _ _ (Gw d >>= _) _ _ sh;unfold Gw;rw[aJ (by rw[h0];exact bU)];refine ae (aE (ae (gJ hu kK (ae (sV hu kK ?_)))));refine ae (iV (aE ⟨_,rfl,"dict_keyiterator",_,⟨_,bh _ rfl,rfl⟩,fw.lookup,?_⟩));simpa[iB]using q
def b3M(hI:sh.heap.IsKeyIter it d i rows.size ep)(hm:sh.heap.RawDict d rows ep)(hi:i<rows.size)
  (q:∀h',h'.IsKeyIter it d (i+1) rows.size ep->mJ it sh.heap h'->Q (cz rows[i].key) {sh with heap:=h'}):aX (aV prog w) A (ve (.ref it)) Q E sh:=by
 obtain⟨x,hx,AQ,tw⟩:=id hI;obtain⟨u,hu,_,vA⟩:=id hm;unfold ve;refine ae (oS (gf (name:=cH "__next__") hI.typeIs fw (et fw hI.typeIs sT ?_ (sj _))));refine ae (aE (ae (ae ?_)))
 first|refine ae (gu hI.typeIs (aE ?_))|refine ae (ie hI.typeIs (aE ?_))
 refine ae (wpAny_fieldsOf hx tw ?_);simp only[show uu "dict_keyiterator"=yp from by decide,br,dh];show aX _ _ (if (bM d==bw)=yn then _ else _) _ _ sh;rw[aJ (show ¬ (bM d==bw)=yn from bU)];refine ae (aE (ae (gJ hu vA ?_)));rw[aJ (by simp)];refine ae (aE (ae (sV hu vA ?_)));rw[aJ (by simp)];refine aE ?_;simp only[show ¬ (i:Int)<0 from by lia,dh,bK,bA hi];refine ae ?_
 first|refine ae (gu hI.typeIs (aE ?_))|refine ae (ie hI.typeIs (aE ?_))
 refine ae (Fp hI.typeIs ?_);show aX _ _ (setField (.ref it) 1 (iB ((i:Int)+1)) >>= _) _ _ sh;refine ae (wpAny_setField hx tw (by simp) ?_);have Bz:(sh.heap.update it (fY.mapFields (·.setIfInBounds 1 (iB ((i:Int)+1))))).IsKeyIter it d (i+1) rows.size ep:=
  ⟨_,cJ _ hx (fY.isFreed_of_fields (fY.data_mapFields tw _)),(fY.cls_mapFields ..).trans AQ,by rw[fY.data_mapFields tw];simp[iB]⟩
 refine ae (cY ?_);refine ae (Fp (s:={sh with heap:=sh.heap.update it (fY.mapFields (·.setIfInBounds 1 (iB ((i:Int)+1))))}) Bz.typeIs ?_);show aX _ _ (pure rows[i].key) _ _ _;exact aE (aE ⟨_,rfl,aE (q _ Bz (fC ..))⟩)
def b3N(hh:A.handled=xn)(hI:sh.heap.IsKeyIter it d i rows.size ep)(hm:sh.heap.RawDict d rows ep)(hi:rows.size<=i)
  (q:∀h',cS.ExtBut it sh.heap h'->Q xn {sh with heap:=h'}):aX (aV prog w) A (ve (.ref it)) Q E sh:=by
 obtain⟨x,hx,AQ,tw⟩:=id hI;obtain⟨u,hu,_,vA⟩:=id hm;unfold ve;refine ae (oS (gf (name:=cH "__next__") hI.typeIs fw (et fw hI.typeIs sT ?_ (sj _))));refine ae (aE (ae (ae ?_)))
 first|refine ae (gu hI.typeIs (aE ?_))|refine ae (ie hI.typeIs (aE ?_))
 refine ae (wpAny_fieldsOf hx tw ?_);simp only[show uu "dict_keyiterator"=yp from by decide,br,dh];show aX _ _ (if (bM d==bw)=yn then _ else _) _ _ sh;rw[aJ (show ¬ (bM d==bw)=yn from bU)];refine ae (aE (ae (gJ hu vA ?_)));rw[aJ (by simp)];refine ae (aE (ae (sV hu vA ?_)));rw[aJ (by simp)];refine aE ?_;simp only[show ¬ (i:Int)<0 from by lia,dh,bK,gd hi];refine ae ?_
 first|refine ae (gu hI.typeIs (aE ?_))|refine ae (ie hI.typeIs (aE ?_))
 show aX _ _ (setField (.ref it) 0 .none >>= _) _ _ sh;refine ae (wpAny_setField hx tw (by simp) ?_);show aX _ _ (newExc (.type "StopIteration") [] >>= _) _ _ _;refine ae ?_;simp only[newExc,newTuple];refine ae (iV ?_ (by size_fits));refine ae (m:=firstArgMember _ _) (wpAny_of_eq (a:=bw) (by first|rfl|(simp only[firstArgMember];rfl)) ?_);refine iV ?_ (by size_fits);simp only[raiseNew];refine ae (wpAny_handled ?_);rw[show A.in1.handled=xn from hh];refine ae (aE (wpAny_throw ?_));refine ae (lP (b:=yn) (T:="StopIteration") ⟨_,bh _ rfl,rfl⟩ isSubtype_stop ?_);exact aE (q _ (((fC ..).extBut.push _).push _))
def b1H(hh:A.handled=xn)(iU:d≠it):Walks prog w A it [it,d] [it] rows.size (λi v=>∃e,rows[i]?=cz e/\v=e.key) (λi h=>h.IsKeyIter it d i rows.size ep/\h.RawDict d rows ep) where
 sub:=λb hb=>aD.mpr (.inl (aq.mp hb))
 frame:=λ_ _ _ st hk=>⟨st.1.at λo e=>hk it aL o e,st.2.at λo e=>hk d (aw _ aL) o e⟩
 item:=λi s Q E hi st q=>b3M st.1 st.2 hi λh' hI hs=>q _ h' s.toks ⟨rows[i],bA hi,rfl⟩ ⟨hI,st.2.at λo e=>hs.extBut d o iU e⟩ λb o hb e=>hs.extBut b o (λz=>hb (by rw[z];exact aq.mpr rfl)) e
 done:=λs Q E st q=>b3N hh st.1 st.2 (ay _) λh' he=>q h' s.toks λb o hb e=>he b o (λz=>hb (by rw[z];exact aq.mpr rfl)) e
 self:=λ_ _ _ _ st q=>wpAny_pyIter_keyiter st.1 q
def b6E(h0:(d==dr)=yp):W.KdlSrc prog w "dict" d d rows.size (λi v=>∃e,rows[i]?=cz e/\v=e.key) (λh=>h.RawDict d rows ep) where
 type:=λ_ hm=>hm.typeIs
 there:=λh hm=>let⟨_,hu,_⟩:=hm;⟨aU hu,aU hu⟩
 keep:=λ_ _ hm hk=>hm.at λo e=>hk d (.inl rfl) o e
 notList:=by decide
 notTuple:=by decide
 hint:=λ_ _ s _ hm q=>W.kdl_hint_dict (Heap.RawDict.typeIs (sh:=s) hm) q
 iter:=λ_ _ hh hm=>⟨_,_,(λ_ _ q=>b3L h0 hm q),b1H hh (let⟨_,hu,_⟩:=hm;bP (aU hu)),⟨⟨_,bh _ rfl,rfl,rfl⟩,hm.at λ_ e=>aG _ e⟩⟩
end
end PySem
namespace VS
open PySem PyProof.Rows
def a5O:Bool->bQ->Array bQ->Nat->Nat->Nat->StateT dq Af (Option Nat):=sortPriv% PySem.Builtin.gallop
structure CmpS (prog:bB) (w:bZ) (A:bS) (s:ar) (κ:eY) (O:KeyOrd) (ky:bQ->O.α) (S:bQ->Prop):Prop where
 lt:∀x y:bQ,S x->S y->∀C:Bool->ar->Prop,C (O.blt (ky x) (ky y)) s->aX (aV prog w) A (keyLt' κ x.1 y.1) C (λ_ _=>False) s
section
variable {prog:bB}{w:bZ}{A:bS}{E:ak->ar->Prop}{s:ar}{κ:eY}{O:KeyOrd}{ky:bQ->O.α}{S:bQ->Prop}{st:dq}
def a3y(H:CmpS prog w A s κ O ky S)(hk:kindOf st=κ)(hx:S x)(hy:S y)(h:Q (cz (O.blt (ky x) (ky y))) st):sU (aV prog w) A E s (lt' x y) Q st:=by
 rw[lt'_eq];refine aR (mV ?_);rw[hk];refine aR (wpS_lift (oS ?_));refine dU (H.lt x y hx hy (λb s'=>b=O.blt (ky x) (ky y)/\s'=s) ⟨rfl,rfl⟩) (λb s' hb=>?_) λ_ _ e=>e.elim
 obtain⟨rfl,rfl⟩:=hb;exact⟨rfl,ba h⟩
def l9{arr:Array bQ}(hi:i<arr.size)(h:Q arr[i] st):sU (aV prog w) A E s (elem' arr i) Q st:=by
 rw[elem'_eq,bA hi];exact ba h
def b3O(ky:bQ->O.α)(S:bQ->Prop)(arr:Array bQ)(base n:Nat)(ka:Nat->O.α):Prop:=∀i,i<n->∃h:base+i<arr.size,ky arr[base+i]=ka i/\S arr[base+i]
def prG(left:Bool)(k:O.α)(ka:Nat->O.α)(i:Nat):Bool:=if left then O.blt (ka i) k else !O.blt k (ka i)
def N2(H:CmpS prog w A s κ O ky S)(hk:kindOf st=κ)(P:b3O ky S arr base n ka)(hS:S key)(hi:i<n)(h:Q (cz (prG left (ky key) ka i)) st) :
  sU (aV prog w) A E s (do let x <-elem' arr (base+i);if left then lt' x key else return (<-lt' key x).map (!·)) Q st:=by
 obtain⟨hb,e,hs⟩:=P i hi;refine aR (l9 hb ?_);unfold prG at h;cases left with
 |true=>exact a3y H hk hs hS (by rw[e];exact h)
 |false=>exact aR (a3y H hk hS hs (ba (by rw[e];exact h)))
def a3z(H:CmpS prog w A s κ O ky S)(hk:kindOf st=κ)(P:b3O ky S arr base n ka)(hS:S key)(hh:hint<n)(mono:∀i j,i<=j->j<n->prG left (ky key) ka j=yn->prG left (ky key) ka i=yn) 
  (q:∀k,k<=n->(∀i,i<k->prG left (ky key) ka i=yn)->(∀i,k<=i->i<n->prG left (ky key) ka i=yp)->Q (cz k) st):sU (aV prog w) A E s (a5O left key arr base n hint) Q st:=by
 have ud:∀i j,i<=j->j<n->prG left (ky key) ka i=yp->prG left (ky key) ka j=yp:=λi j gO hj hi=>by
  cases c:prG left (ky key) ka j with
  |false=>rfl
  |true=>rw[mono i j gO hj c]at hi;cases hi
 refine aR (N2 H hk P hS hh ?_);have wX:∀f:Nat->(Option (Option Nat)×Nat×Nat)->StateT dq Af (ForInStep (Option (Option Nat)×Nat×Nat)),
   (∀x l r (Q':ForInStep (Option (Option Nat)×Nat×Nat)->dq->Prop),l≥r->Q' (.done (xn,l,r)) st->sU (aV prog w) A E s (f x (xn,l,r)) Q' st)->
   (∀x l r (Q':ForInStep (Option (Option Nat)×Nat×Nat)->dq->Prop),¬ l≥r->l+(r-l) / 2<n->(prG left (ky key) ka (l+(r-l) / 2)=yn->Q' (.yield (xn,l+(r-l) / 2+1,r)) st)->(prG left (ky key) ka (l+(r-l) / 2)=yp->Q' (.yield (xn,l,l+(r-l) / 2)) st)->sU (aV prog w) A E s (f x (xn,l,r)) Q' st)->
   ∀lo hi,lo<=hi->hi<=n->(∀i,i<lo->prG left (ky key) ka i=yn)->(∀i,hi<=i->i<n->prG left (ky key) ka i=yp)->
   sU (aV prog w) A E s (forIn [0:n] ((xn:Option (Option Nat)),lo,hi) f) (λc cL=>cL=st/\∃r,c=(xn,r,r)/\r<=n/\(∀i,i<r->prG left (ky key) ka i=yn)/\(∀i,r<=i->i<n->prG left (ky key) ka i=yp)) st:=by
  intro f f1 f2 lo hi h1 h2 h3 h4;refine dI (I:=λx c cL=>cL=st/\∃l r,c=(xn,l,r)/\l<=r/\r<=n/\r-l<=n-x/\(∀i,i<l->prG left (ky key) ka i=yn)/\(∀i,r<=i->i<n->prG left (ky key) ka i=yp)) ?step ?fin ⟨rfl,lo,hi,rfl,h1,h2,by lia,h3,h4⟩
  case fin=>
   rintro c cL ⟨rfl,l,r,rfl,g1,g2,g3,g4,g5⟩;have:l=r:=by lia
   subst this;exact⟨rfl,l,rfl,g2,g4,g5⟩
  case step=>
   rintro x c cL _ hx ⟨rfl,l,r,rfl,g1,g2,g3,g4,g5⟩;by_cases c:l≥r
   ·have:l=r:=by lia
    subst this;exact f1 x l l _ c ⟨rfl,l,rfl,g2,g4,g5⟩
   ·refine f2 x l r _ c (by lia) (λd=>?_) λd=>?_
    ·exact⟨rfl,_,_,rfl,by lia,g2,by lia,λi hi=>mono i _ (show i<=l+(r-l) / 2 by lia) (by lia) d,g5⟩
    ·exact⟨rfl,_,_,rfl,by lia,by lia,by lia,g4,λi hi hn=>ud _ i hi hn d⟩
 dsimp only
 cases d:prG left (ky key) ka hint with
 |true=>
  rw[aB rfl];refine aR (fO (dI (I:=λx c cL=>cL=st/\∃l o,c=(xn,l,o)/\l<o/\x+1<=o/\hint+l<n/\prG left (ky key) ka (hint+l)=yn)
   (Q:=λc cL=>cL=st/\∃l o,c=(xn,l,o)/\l<o/\hint+l<n/\prG left (ky key) ka (hint+l)=yn/\(hint+o<n->prG left (ky key) ka (hint+o)=yp)) ?step ?fin ⟨rfl,0,1,rfl,by lia,by lia,by lia,d⟩) ?post)
  case fin=>
   rintro c cL ⟨rfl,l,o,rfl,g1,g2,g3,g4⟩;exact⟨rfl,l,o,rfl,g1,g3,g4,λz=>by lia⟩
  case post=>
   rintro c cL ⟨rfl,l,o,rfl,g1,g2,g3,g4⟩
   dsimp only
   refine aR (fO (wX _ (λx l r Q' c h=>?_) (λx l r Q' c hm ht hf=>?_) (hint+l+1) (hint+min o (n-hint)) (by lia) (by lia) (λi hi=>mono i (hint+l) (by lia) g2 g3) (λi hi hn=>(dH (hint+o) n).elim (λz=>ud (hint+o) i (by lia) hn (g4 z)) λz=>by lia)) λc cL ⟨e,r,e2,r1,r2,r3⟩=>?_)
   ·dsimp only;rw[aB c];exact ba h
   ·dsimp only
    rw[aJ c];refine aR (N2 H hk P hS hm ?_)
    dsimp only
    cases d':prG left (ky key) ka (l+(r-l) / 2) with
    |true=>rw[aB rfl];exact ba (ht d')
    |false=>simp only[br,dh];exact ba (hf d')
   ·subst e e2;exact ba (q r r1 r2 r3)
  case step=>
   rintro x c cL _ hx ⟨rfl,l,o,rfl,g1,g2,g3,g4⟩
   dsimp only
   by_cases c:o≥n-hint
   ·rw[aB c];exact ba ⟨rfl,l,o,rfl,g1,g3,g4,λz=>by lia⟩
   ·rw[aJ c];refine aR (N2 H hk P hS (show hint+o<n by lia) ?_)
    dsimp only
    cases e:prG left (ky key) ka (hint+o) with
    |true=>
     simp only[gS,br,dh];exact ba ⟨rfl,o,2*o+1,rfl,by lia,by lia,by lia,e⟩
    |false=>
     simp only[Bool.not_false,nI];exact ba ⟨rfl,l,o,rfl,g1,g3,g4,λ_=>e⟩
 |false=>
  simp only[br,dh];refine aR (fO (dI (I:=λx c cL=>cL=st/\∃l o,c=(xn,l,o)/\l<o/\x+1<=o/\l<=hint/\prG left (ky key) ka (hint-l)=yp)
   (Q:=λc cL=>cL=st/\∃l o,c=(xn,l,o)/\l<o/\l<=hint/\prG left (ky key) ka (hint-l)=yp/\(o<=hint->prG left (ky key) ka (hint-o)=yn)) ?step ?fin ⟨rfl,0,1,rfl,by lia,by lia,by lia,d⟩) ?post)
  case fin=>
   rintro c cL ⟨rfl,l,o,rfl,g1,g2,g3,g4⟩;exact⟨rfl,l,o,rfl,g1,g3,g4,λz=>by lia⟩
  case post=>
   rintro c cL ⟨rfl,l,o,rfl,g1,g2,g3,g4⟩
   dsimp only
   refine aR (fO (wX _ (λx l r Q' c h=>?_) (λx l r Q' c hm ht hf=>?_) (hint+1-min o (hint+1)) (hint-l) (by lia) (by lia) (λi hi=>(dH hint o).elim (λz=>by lia) λz=>mono i (hint-o) (by lia) (by lia) (g4 z)) (λi hi hn=>ud (hint-l) i (by lia) hn g3)) λc cL ⟨e,r,e2,r1,r2,r3⟩=>?_)
   ·dsimp only;rw[aB c];exact ba h
   ·dsimp only
    rw[aJ c];refine aR (N2 H hk P hS hm ?_)
    dsimp only
    cases d':prG left (ky key) ka (l+(r-l) / 2) with
    |true=>rw[aB rfl];exact ba (ht d')
    |false=>simp only[br,dh];exact ba (hf d')
   ·subst e e2;exact ba (q r r1 r2 r3)
  case step=>
   rintro x c cL _ hx ⟨rfl,l,o,rfl,g1,g2,g3,g4⟩
   dsimp only
   by_cases c:o≥hint+1
   ·rw[aB c];exact ba ⟨rfl,l,o,rfl,g1,g3,g4,λz=>by lia⟩
   ·rw[aJ c];refine aR (N2 H hk P hS (show hint-o<n by lia) ?_)
    dsimp only
    cases e:prG left (ky key) ka (hint-o) with
    |true=>
     rw[aB rfl];exact ba ⟨rfl,l,o,rfl,g1,g3,g4,λ_=>e⟩
    |false=>
     simp only[br,dh];exact ba ⟨rfl,o,2*o+1,rfl,by lia,by lia,by lia,e⟩
end
section
variable {O:KeyOrd}{ky:bQ->O.α}
def UpA(ky:bQ->O.α)(a:Array bQ):Prop:=∀i j (hj:j<a.size) (h:i<=j),O.kle (ky (a[i]'(by lia))) (ky a[j])
structure MInv (ky:bQ->O.α) (a b out:Array bQ) (ia ib:Nat):Prop where
 la:ia<=a.size
 lb:ib<=b.size
 pm:out.toList.Perm (a.toList.take ia++b.toList.take ib)
 up:out.toList.Pairwise λx y=>O.kle (ky x) (ky y)
 ra:∀x∈out.toList,∀i (h:i<a.size),ia<=i->O.kle (ky x) (ky a[i])
 rb:∀x∈out.toList,∀i (h:i<b.size),ib<=i->O.kle (ky x) (ky b[i])
def take_snoc{α:Type}{l:List α}(h:i<l.length):l.take (i+1)=l.take i++[l[i]]:=(List.take_append_getElem h).symm
def MInv.stepA(M:MInv ky a b out ia ib)(ua:UpA ky a)(h:ia<a.size)(hb:∀j (hj:j<b.size),ib<=j->O.kle (ky a[ia]) (ky b[j])):MInv ky a b (out.push a[ia]) (ia+1) ib:=by
 refine⟨h,M.lb,?_,?_,λx hx i hi hh=>?_,λx hx j hj hh=>?_⟩
 ·rw[cw,take_snoc (by simpa using h),aN];refine (M.pm.append_right _).trans ?_;rw[aN];refine gq _ ?_;rw[bW];exact uV
 ·rw[cw,dt];refine⟨M.up,dJ _ _,λx hx y hy=>?_⟩;rw[aq.mp hy];exact M.ra x hx ia h (ay _)
 ·rw[cw]at hx;rcases ao.mp hx with z|z
  ·exact M.ra x z i hi (by lia)
  ·rw[aq.mp z];exact ua ia i hi (by lia)
 ·rw[cw]at hx;rcases ao.mp hx with z|z
  ·exact M.rb x z j hj hh
  ·rw[aq.mp z];exact hb j hj hh
def MInv.stepB(M:MInv ky a b out ia ib)(ub:UpA ky b)(h:ib<b.size)(ha:∀i (hi:i<a.size),ia<=i->O.kle (ky b[ib]) (ky a[i])):MInv ky a b (out.push b[ib]) ia (ib+1):=by
 refine⟨M.la,h,?_,?_,λx hx i hi hh=>?_,λx hx j hj hh=>?_⟩
 ·rw[cw,take_snoc (l:=b.toList) (by simpa using h),<-aN,bW];exact M.pm.append_right _
 ·rw[cw,dt];refine⟨M.up,dJ _ _,λx hx y hy=>?_⟩;rw[aq.mp hy];exact M.rb x hx ib h (ay _)
 ·rw[cw]at hx;rcases ao.mp hx with z|z
  ·exact M.ra x z i hi hh
  ·rw[aq.mp z];exact ha i hi hh
 ·rw[cw]at hx;rcases ao.mp hx with z|z
  ·exact M.rb x z j hj (by lia)
  ·rw[aq.mp z];exact ub ib j hj (by lia)
def a1c{a out:Array bQ}(h:i+k<a.size):(out++a.extract i (i+k)).push (a[i+k]'h)=out++a.extract i (i+(k+1)):=by
 rw[oR,jV]
 congr 1;apply hU;rw[mL,gE,gE];simp only[jZ];rw[show i+k-i=k by lia,show i+(k+1)-i=k+1 by lia,take_snoc (by rw[gH,aP];lia),BX,bW]
theorem MInv.manyA(ua:UpA ky a):∀(k:Nat) {out:Array bQ},MInv ky a b out ia ib->ia+k<=a.size->(∀i (hi:i<a.size),ia<=i->i<ia+k->∀j (hj:j<b.size),ib<=j->O.kle (ky a[i]) (ky b[j]))->MInv ky a b (out++a.extract ia (ia+k)) (ia+k) ib
 |0,out,M,_,_=>by
  have e:a.extract ia (ia+0)=#[]:=by apply hU;simp
  rw[e,hX];exact M
 |k+1,out,M,h,hb=>by
  have ih:=MInv.manyA ua k M (by lia) λi hi h1 h2=>hb i hi h1 (by lia)
  have:=ih.stepA ua (show ia+k<a.size by lia) λj hj h1=>hb (ia+k) (by lia) (by lia) (by lia) j hj h1
  rw[a1c (by lia)]at this;exact this
theorem MInv.manyB(ub:UpA ky b):∀(k:Nat) {out:Array bQ},MInv ky a b out ia ib->ib+k<=b.size->(∀j (hj:j<b.size),ib<=j->j<ib+k->∀i (hi:i<a.size),ia<=i->O.kle (ky b[j]) (ky a[i]))->MInv ky a b (out++b.extract ib (ib+k)) ia (ib+k)
 |0,out,M,_,_=>by
  have e:b.extract ib (ib+0)=#[]:=by apply hU;simp
  rw[e,hX];exact M
 |k+1,out,M,h,hb=>by
  have ih:=MInv.manyB ub k M (by lia) λi hi h1 h2=>hb i hi h1 (by lia)
  have:=ih.stepB ub (show ib+k<b.size by lia) λj hj h1=>hb (ib+k) (by lia) (by lia) (by lia) j hj h1
  rw[a1c (by lia)]at this;exact this
def Q5(ky:bQ->O.α)(a b out:Array bQ):Prop:=out.toList.Perm (a.toList++b.toList)/\out.toList.Pairwise λx y=>O.kle (ky x) (ky y)
def MInv.all(M:MInv ky a b out a.size b.size):Q5 ky a b out:=by
 refine⟨?_,M.up⟩;have:=M.pm
 rwa[kZ (by simp),kZ (by simp)]at this
def MInv.doneB(M:MInv ky a b out ia b.size)(ua:UpA ky a):Q5 ky a b (out++a.extract ia a.size++b.extract b.size b.size):=by
 have:=MInv.manyA ua (a.size-ia) M (by have:=M.la;lia) λi hi _ _ j hj h=>by lia
 rw[show ia+(a.size-ia)=a.size by have:=M.la;lia]at this;have e:b.extract b.size b.size=#[]:=by simp
 rw[e,hX];exact this.all
def MInv.doneA(M:MInv ky a b out a.size ib)(ub:UpA ky b):Q5 ky a b (out++a.extract a.size a.size++b.extract ib b.size):=by
 have:=MInv.manyB ub (b.size-ib) M (by have:=M.lb;lia) λi hi _ _ j hj h=>by lia
 rw[show ib+(b.size-ib)=b.size by have:=M.lb;lia]at this;have e:a.extract a.size a.size=#[]:=by simp
 rw[e,hX];exact this.all
def MInv.last(M:MInv ky a b out ia ib)(ua:UpA ky a)(ub:UpA ky b)(h:ia+1=a.size)(hl:∀j (hj:j<b.size),O.kle (ky b[j]) (ky (a[ia]'(by lia)))):Q5 ky a b (out++b.extract ib b.size++a.extract ia a.size):=by
 have M1:=MInv.manyB ub (b.size-ib) M (by have:=M.lb;lia) λj hj _ _ i hi h2=>by
  have:i=ia:=by lia
  subst this;exact hl j hj
 rw[show ib+(b.size-ib)=b.size by have:=M.lb;lia]at M1;have M2:=MInv.manyA ua 1 M1 (by lia) λi hi _ _ j hj h2=>by lia
 rw[h]at M2;exact M2.all
end
def b3P:Array bQ->Array bQ->StateT dq Af (Array bQ):=sortPriv% PySem.Builtin.mergeLo
def a4p:Nat->StateT dq Af Unit:=sortPriv% PySem.Builtin.setMinGallop
section
variable {prog:bB}{w:bZ}{A:bS}{E:ak->ar->Prop}{s:ar}{κ:eY}{O:KeyOrd}{ky:bQ->O.α}{S:bQ->Prop}{st:dq}
def SameG(st cL:dq):Prop:=kindOf cL=kindOf st/\a_ cL=a_ st/\cD cL=cD st/\fP cL=fP st
def SameG.refl(st:dq):SameG st st:=⟨rfl,rfl,rfl,rfl⟩
theorem SameG.trans(x:SameG a b)(y:SameG b c):SameG a c:=⟨y.1.trans x.1,y.2.1.trans x.2.1,y.2.2.1.trans x.2.2.1,y.2.2.2.trans x.2.2.2⟩
def a1d(h:∀cL,SameG st cL->Q () cL):sU (aV prog w) A E s (a4p g) Q st:=by
 exact me (h _ ⟨rfl,rfl,rfl,rfl⟩)
def Q6(h:Q () st):sU (aV prog w) A E s (rule x) Q st:=wpS_lift (iA ⟨rfl,h⟩)
def k6{β:Type}{c:Prop}{dc:Decidable c}{x y:StateT dq Af β}{Q:β->dq->Prop}(h:c->sU (aV prog w) A E s x Q st)(g:¬ c->sU (aV prog w) A E s y Q st):sU (aV prog w) A E s (ite c x y) Q st:=by
 by_cases d:c
 ·rw[aB d];exact h d
 ·rw[aJ d];exact g d
def x9{i j:Nat}(h:¬ (i==j)=yn):i≠j:=λe=>h (by rw[e];exact oM j)
def Q7{γ δ:Sort _}{β:Type}{R:γ->δ->Prop}{F:γ->δ->StateT dq Af β}{x:StateT dq Af β}{Q:β->dq->Prop}(tl:∀g d,R g d->sU (aV prog w) A E s (F g d) Q st)(mn:(∀g d,R g d->sU (aV prog w) A E s (F g d) Q st)->sU (aV prog w) A E s x Q st):sU (aV prog w) A E s x Q st:=mn tl
def a5P:(!O.blt k x)=yn↔O.kle x k:=by unfold KeyOrd.kle;cases O.blt k x<;>simp
def UpR(ky:bQ->O.α)(arr:Array bQ)(base n:Nat):Prop:=∀i j (hj:j<arr.size) (h:i<=j),base<=i->j<base+n->O.kle (ky (arr[i]'(by lia))) (ky arr[j])
def UpA.part(u:UpA ky arr)(base n:Nat):UpR ky arr base n:=λi j hj h _ _=>u i j hj h
def kyD(ky:bQ->O.α)(arr:Array bQ)(base:Nat)(d:O.α)(i:Nat):O.α:=(arr[base+i]?.map ky).getD d
def a0D{arr:Array bQ}(h:base+i<arr.size):kyD ky arr base d i=ky arr[base+i]:=by unfold kyD;rw[bA h];rfl
def part_of{arr:Array bQ}(hn:base+n<=arr.size)(pZ:∀i (h:i<arr.size),base<=i->i<base+n->S arr[i])(d:O.α):b3O ky S arr base n (kyD ky arr base d):=λi hi=>⟨by lia,(a0D (by lia)).symm,pZ _ _ (by lia) (by lia)⟩
def a3A(H:CmpS prog w A s κ O ky S)(hk:kindOf st=κ)(u:UpR ky arr base n)(pZ:∀i (h:i<arr.size),base<=i->i<base+n->S arr[i])(hS:S key)(hn:base+n<=arr.size)(hh:hint<n) 
  (q:∀k,k<=n->(∀i (h:i<arr.size),base<=i->i<base+k->O.kle (ky arr[i]) (ky key))->(∀i (h:i<arr.size),base+k<=i->i<base+n->O.klt (ky key) (ky arr[i]))->Q (cz k) st):sU (aV prog w) A E s (a5O yp key arr base n hint) Q st:=by
 have at_:∀i (h:i<arr.size),base<=i->kyD ky arr base (ky key) (i-base)=ky arr[i]:=λi h hb=>by
  have e:base+(i-base)=i:=by lia
  rw[a0D (by lia)];simp only[e]
 refine a3z H hk (part_of hn pZ (ky key)) hS hh (λi j gO hj h=>?_) λk k1 k2 k3=>q k k1 (λi h hb hi=>?_) λi h hb hi=>?_
 ·have h':=a5P.mp h;refine a5P.mpr (dg ?_ h');rw[a0D (show base+i<arr.size by lia),a0D (show base+j<arr.size by lia)];exact u (base+i) (base+j) (by lia) (by lia) (by lia) (by lia)
 ·have:=a5P.mp (k2 (i-base) (by lia))
  rwa[at_ i h hb]at this
 ·have:=k3 (i-base) (by lia) (by lia);have h2:(!O.blt (ky key) (kyD ky arr base (ky key) (i-base)))=yp:=this;rw[at_ i h (by lia)]at h2;show O.blt _ _=yn;simpa using h2
def a3B(H:CmpS prog w A s κ O ky S)(hk:kindOf st=κ)(u:UpR ky arr base n)(pZ:∀i (h:i<arr.size),base<=i->i<base+n->S arr[i])(hS:S key)(hn:base+n<=arr.size)(hh:hint<n) 
  (q:∀k,k<=n->(∀i (h:i<arr.size),base<=i->i<base+k->O.klt (ky arr[i]) (ky key))->(∀i (h:i<arr.size),base+k<=i->i<base+n->O.kle (ky key) (ky arr[i]))->Q (cz k) st):sU (aV prog w) A E s (a5O yn key arr base n hint) Q st:=by
 have at_:∀i (h:i<arr.size),base<=i->kyD ky arr base (ky key) (i-base)=ky arr[i]:=λi h hb=>by
  have e:base+(i-base)=i:=by lia
  rw[a0D (by lia)];simp only[e]
 refine a3z H hk (part_of hn pZ (ky key)) hS hh (λi j gO hj h=>?_) λk k1 k2 k3=>q k k1 (λi h hb hi=>?_) λi h hb hi=>?_
 ·have h':O.klt _ _:=h;refine (KeyOrd.klt_of_kle_of_klt ?_ h':O.klt _ _);rw[a0D (show base+i<arr.size by lia),a0D (show base+j<arr.size by lia)];exact u (base+i) (base+j) (by lia) (by lia) (by lia) (by lia)
 ·have:O.blt _ _=yn:=k2 (i-base) (by lia);rw[at_ i h hb]at this;exact this
 ·have:O.blt _ _=yp:=k3 (i-base) (by lia) (by lia);rw[at_ i h (by lia)]at this;exact this
def a6X(H:CmpS prog w A s κ O ky S)(hk:kindOf st=κ)(ua:UpA ky a)(ub:UpA ky b)(sa:∀i (h:i<a.size),S a[i])(sb:∀i (h:i<b.size),S b[i])(a0:0<a.size)(b0:0<b.size)(hf:O.klt (ky b[0]) (ky a[0]))(hl:∀j (hj:j<b.size),O.klt (ky b[j]) (ky (a[a.size-1]'(by lia))))
  (q:∀out cL,SameG st cL->Q5 ky a b out->Q out cL):sU (aV prog w) A E s (b3P a b) Q st:=by
 have M0:MInv ky a b #[b[0]] 0 1:=by
  have M:MInv ky a b #[] 0 0:=⟨cG _,cG _,by simp,by simp,λx hx=>by simp at hx,λx hx=>by simp at hx⟩;have:=M.stepB ub b0 λi hi _=>cO (fx hf (ua 0 i hi (by lia)))
  simpa using this
 have m_:∀{out:Array bQ} {ia ib:Nat},MInv ky a b out ia ib->ia+1=a.size->Q5 ky a b (out++b.extract ib b.size++a.extract ia a.size):=λ{out ia ib} M h=>M.last ua ub h λj hj=>by
  have:=hl j hj;have e:a.size-1=ia:=by lia
  simp only[e]at this;exact cO this
 refine aR (Q6 ?_);refine aR (l9 b0 ?_);refine k6 (λc1=>?_) λc1=>?_
 ·have e:1=b.size:=eq_of_beq c1;refine ba (q _ _ (SameG.refl _) ?_);have:=M0;rw[e]at this ⊢;exact this.doneB ua
 have Fb:1≠b.size:=x9 c1;refine k6 (λc2=>ba (q _ _ (SameG.refl _) (m_ M0 (eq_of_beq c2)))) λc2=>?_
 have E_:0+1≠a.size:=x9 c2;refine aR (mV ?_);refine aR (fO (dI (I:=λx c cL=>SameG st cL/\∃out ia ib mg,c=(xn,out,ia,ib,mg)/\MInv ky a b out ia ib/\ia+1<a.size/\ib<b.size/\x+1<=ia+ib)
  (Q:=λc cL=>SameG st cL/\∃r z,c=(cz r,z)/\Q5 ky a b r) ?ostep ?ofin ⟨SameG.refl _,#[b[0]],0,1,_,rfl,M0,by lia,by lia,by lia⟩) ?opost)
 case opost=>
  rintro c cL ⟨hs,r,z,rfl,hm⟩;exact ba (q r cL hs hm)
 case ofin=>
  rintro c cL ⟨hs,out,ia,ib,mg,rfl,M,h1,h2,h3⟩;lia
 case ostep=>
  rintro x c cL _ hx ⟨hs,out,ia,ib,mg,rfl,M,h1,h2,h3⟩;refine aR (fO (dI (I:=λx' c fy=>SameG st fy/\∃jh lI lS ac bc,c=(xn,jh,lI,lS,ac,bc)/\MInv ky a b jh lI lS/\lI+1<a.size/\lS<b.size/\lI+lS=ia+ib+x')
   (Q:=λc fy=>SameG st fy/\((∃r z,c=(cz r,z)/\Q5 ky a b r)\/∃jh lI lS ac bc,c=(xn,jh,lI,lS,ac,bc)/\MInv ky a b jh lI lS/\lI+1<a.size/\lS<b.size/\ia+ib+1<=lI+lS)) ?istep ?ifin ⟨hs,out,ia,ib,_,_,rfl,M,h1,h2,by lia⟩) ?ipost)
  case ifin=>
   rintro c fy ⟨jf,jh,lI,lS,ac,bc,rfl,M',g1,g2,g3⟩;exact⟨jf,.inr ⟨_,_,_,_,_,rfl,M',g1,g2,by lia⟩⟩
  case istep=>
   rintro x' c fy _ vw ⟨jf,jh,lI,lS,ac,bc,rfl,M',g1,g2,g3⟩;have xD:lI<a.size:=by lia
   refine aR (l9 g2 (aR (l9 xD ?_)));refine aR (a3y H (jf.1.trans hk) (sb _ g2) (sa _ xD) (k6 (λc=>?_) λc=>?_))
   ·refine aR (l9 g2 (k6 (λd=>?_) λd=>?_))
    ·have M2:=M'.stepB ub g2 λi hi h=>cO (fx c (ua lI i hi h))
     have e:lS+1=b.size:=eq_of_beq d;refine ba ⟨jf,.inl ⟨_,_,rfl,?_⟩⟩;rw[e]at M2 ⊢;exact M2.doneB ua
    ·have M2:=M'.stepB ub g2 λi hi h=>cO (fx c (ua lI i hi h))
     have e:lS+1≠b.size:=x9 d;exact k6 (λ_=>ba ⟨jf,.inr ⟨_,lI,lS+1,_,_,rfl,M2,g1,by lia,by lia⟩⟩) λ_=>ba ⟨jf,_,lI,lS+1,_,_,rfl,M2,g1,by lia,by lia⟩
   ·have c:=fN.mpr c;have M2:=M'.stepA ua xD λj hj h=>dg (show O.kle (ky a[lI]) (ky b[lS]) from c) (ub lS j hj h)
    refine aR (l9 xD (k6 (λd=>ba ⟨jf,.inl ⟨_,_,rfl,m_ M2 (eq_of_beq d)⟩⟩) λd=>?_));have e:lI+1+1≠a.size:=x9 d;exact k6 (λ_=>ba ⟨jf,.inr ⟨_,lI+1,lS,_,_,rfl,M2,by lia,g2,by lia⟩⟩) λ_=>ba ⟨jf,_,lI+1,lS,_,_,rfl,M2,by lia,g2,by lia⟩
  case ipost=>
   rintro c fy ⟨jf,⟨r,z,rfl,hm⟩|⟨jh,lI,lS,ac,bc,rfl,M',g1,g2,g3⟩⟩
   ·exact ba ⟨jf,r,_,rfl,hm⟩
   refine aR (Q6 ?_);refine aR (fO (dI (I:=λ_ c jA=>SameG st jA/\∃o2 i2 j2 mg ac bc,c=(xn,o2,i2,j2,mg,ac,bc)/\MInv ky a b o2 i2 j2/\i2+1<a.size/\j2<b.size/\lI+lS<=i2+j2)
    (Q:=λc jA=>SameG st jA/\((∃r z,c=(cz r,z)/\Q5 ky a b r)\/∃o2 i2 j2 mg ac bc,c=(xn,o2,i2,j2,mg,ac,bc)/\MInv ky a b o2 i2 j2/\i2+1<a.size/\j2<b.size/\lI+lS<=i2+j2)) ?gstep ?gfin ⟨jf,jh,lI,lS,_,_,_,rfl,M',g1,g2,ay _⟩) ?gpost)
   case gfin=>
    rintro c jA ⟨nh,x⟩;exact⟨nh,.inr x⟩
   case gpost=>
    rintro c jA ⟨nh,⟨r,z,rfl,hm⟩|⟨o2,i2,j2,sZ,Ae,Ac,rfl,M2,k1,k2,k3⟩⟩
    ·exact ba ⟨nh,r,_,rfl,hm⟩
    refine aR (a1d λkO tG=>ba ?_);exact⟨nh.trans tG,o2,i2,j2,_,rfl,M2,k1,k2,by lia⟩
   case gstep=>
    rintro y c jA _ hy ⟨nh,o2,i2,j2,sZ,Ae,Ac,rfl,M2,k1,k2,k3⟩
    dsimp only
    refine' Q7 (γ:=Nat) (δ:=True) (R:=λ_ _=>True) (λmg tt _=>?tl0) λtl=>?mn0
    case mn0=>
     have u:=trivial;refine k6 (λ_=>?_) λ_=>?_
     ·generalize sZ-1=g;exact tl g u u
     ·exact tl sZ u u
    refine aR (a1d λkO tG=>?_);have ng:=nh.trans tG;refine aR (l9 k2 ?_);refine aR (a3A H (ng.1.trans hk) (ua.part _ _) (λi h _ _=>sa i h) (sb _ k2) (by lia) (by lia) λk q1 q2 q3=>?_);refine' Q7 (R:=λi3 o3=>MInv ky a b o3 i3 j2/\i3=i2+k/\i3+1<a.size) (λi3 o3 h3=>?tl1) λtl=>?mn1
    case mn1=>
     refine k6 (λzj=>?_) λzj=>?_
     ·have M3:=MInv.manyA ua k M2 (by lia) λi hi h1 h2 j hj h3=>dg (q2 i hi h1 h2) (ub j2 j hj h3)
      refine k6 (λd=>ba ⟨ng,.inl ⟨_,_,rfl,m_ M3 (eq_of_beq d)⟩⟩) λd=>k6 (λd2=>?_) λd2=>?_
      ·have e2:i2+k=a.size:=eq_of_beq d2;refine ba ⟨ng,.inl ⟨_,_,rfl,?_⟩⟩;have BV:=M3;rw[e2]at BV ⊢;exact BV.doneA ub
      have e1:=x9 d;have e2:=x9 d2;generalize o2++a.extract i2 (i2+k)=o3 at M3 ⊢;obtain⟨i3,ei⟩:∃i3,i3=i2+k:=⟨_,rfl⟩;rw[<-ei]at M3 ⊢;exact tl i3 o3 ⟨M3,ei,by lia⟩
     ·exact tl i2 o2 ⟨M2,by lia,k1⟩
    obtain⟨M3,ei,pJ⟩:=h3;have pJ:i3<a.size:=by lia
    refine aR (l9 k2 ?_);have M4:=M3.stepB ub k2 λi hi h=>cO (q3 i hi (by lia) (by lia))
    refine k6 (λd3=>?_) λd3=>?_
    ·have e3:j2+1=b.size:=eq_of_beq d3;refine ba ⟨ng,.inl ⟨_,_,rfl,?_⟩⟩;rw[e3]at M4 ⊢;exact M4.doneB ua
    have e3:=x9 d3;refine aR (l9 pJ ?_);refine aR (a3B H (ng.1.trans hk) (ub.part _ _) (λi h _ _=>sb i h) (sa _ pJ) (by lia) (by lia) λk' r1 r2 r3=>?_);refine' Q7 (R:=λj3 o3=>MInv ky a b o3 i3 j3/\j3=j2+1+k'/\j3<b.size) (λj3 o3 h3=>?tl2) λtl=>?mn2
    case mn2=>
     refine k6 (λrN=>?_) λrN=>?_
     ·have M5:=MInv.manyB ub k' M4 (by lia) λj hj h1 h2 i hi h3=>cO (fx (r2 j hj h1 h2) (ua i3 i hi h3))
      refine k6 (λd4=>?_) λd4=>?_
      ·have e4:j2+1+k'=b.size:=eq_of_beq d4;refine ba ⟨ng,.inl ⟨_,_,rfl,?_⟩⟩;rw[e4]at M5 ⊢;exact M5.doneB ua
      have e4:=x9 d4;generalize o3.push b[j2]++b.extract (j2+1) (j2+1+k')=o4 at M5 ⊢;obtain⟨j3,ej⟩:∃j3,j3=j2+1+k':=⟨_,rfl⟩;rw[<-ej]at M5 ⊢;exact tl j3 o4 ⟨M5,ej,by lia⟩
     ·generalize o3.push b[j2]=o4 at M4 ⊢;obtain⟨j3,ej⟩:∃j3,j3=j2+1:=⟨_,rfl⟩;rw[<-ej]at M4 ⊢;exact tl j3 o4 ⟨M4,by lia,by lia⟩
    obtain⟨M5,ej,FT⟩:=h3;have M6:=M5.stepA ua pJ λj hj h=>r3 j hj (by lia) (by lia)
    refine aR (l9 pJ (k6 (λd=>ba ⟨ng,.inl ⟨_,_,rfl,m_ M6 (eq_of_beq d)⟩⟩) λd=>?_));have e5:=x9 d;exact k6 (λ_=>ba ⟨ng,.inr ⟨_,_,_,_,_,_,rfl,M6,by lia,by lia,by lia⟩⟩) λ_=>ba ⟨ng,_,_,_,_,_,_,rfl,M6,by lia,by lia,by lia⟩
end
section
variable {O:KeyOrd}{ky:bQ->O.α}
structure NInv (ky:bQ->O.α) (a b out:Array bQ) (na nb:Nat):Prop where
 la:na<=a.size
 lb:nb<=b.size
 pm:out.toList.Perm (a.toList.drop na++b.toList.drop nb)
 up:out.toList.Pairwise λx y=>O.kle (ky y) (ky x)
 ra:∀x∈out.toList,∀i (h:i<a.size),i<na->O.kle (ky a[i]) (ky x)
 rb:∀x∈out.toList,∀i (h:i<b.size),i<nb->O.kle (ky b[i]) (ky x)
def a1E{α:Type}{l:List α}(h:i<l.length):l.drop i=l[i]::l.drop (i+1):=dA h
def NInv.stepA(M:NInv ky a b out (na+1) nb)(ua:UpA ky a)(h:na<a.size)(hb:∀j (hj:j<b.size),j<nb->O.kle (ky b[j]) (ky a[na])):NInv ky a b (out.push a[na]) na nb:=by
 refine⟨by lia,M.lb,?_,?_,λx hx i hi hh=>?_,λx hx j hj hh=>?_⟩
 ·rw[cw,a1E (l:=a.toList) (by simpa using h),bW,bp];exact (qP _ _).trans (M.pm.cons _)
 ·rw[cw,dt];refine⟨M.up,dJ _ _,λx hx y hy=>?_⟩;rw[aq.mp hy];exact M.ra x hx na h (by lia)
 ·rw[cw]at hx;rcases ao.mp hx with z|z
  ·exact M.ra x z i hi (by lia)
  ·rw[aq.mp z];exact ua i na h (by lia)
 ·rw[cw]at hx;rcases ao.mp hx with z|z
  ·exact M.rb x z j hj hh
  ·rw[aq.mp z];exact hb j hj hh
def NInv.stepB(M:NInv ky a b out na (nb+1))(ub:UpA ky b)(h:nb<b.size)(ha:∀i (hi:i<a.size),i<na->O.kle (ky a[i]) (ky b[nb])):NInv ky a b (out.push b[nb]) na nb:=by
 refine⟨M.la,by lia,?_,?_,λx hx i hi hh=>?_,λx hx j hj hh=>?_⟩
 ·rw[cw,a1E (l:=b.toList) (by simpa using h),bW];refine (qP _ _).trans ((M.pm.cons _).trans ?_);exact List.perm_middle.symm
 ·rw[cw,dt];refine⟨M.up,dJ _ _,λx hx y hy=>?_⟩;rw[aq.mp hy];exact M.rb x hx nb h (by lia)
 ·rw[cw]at hx;rcases ao.mp hx with z|z
  ·exact M.ra x z i hi hh
  ·rw[aq.mp z];exact ha i hi hh
 ·rw[cw]at hx;rcases ao.mp hx with z|z
  ·exact M.rb x z j hj (by lia)
  ·rw[aq.mp z];exact ub j nb h (by lia)
def a6Y{a out:Array bQ}(h:i<a.size)(hn:i<n)(FL:n<=a.size):(out++(a.extract (i+1) n).reverse).push a[i]=out++(a.extract i n).reverse:=by
 rw[oR,jV]
 congr 1;apply hU;simp only[mL,ma,gE,jZ];rw[show n-i=(n-(i+1))+1 by lia,a1E (l:=a.toList) (i:=i) (by simpa using h),List.take_succ_cons,kg,bW]
theorem NInv.manyA(ua:UpA ky a):∀(k:Nat) {out:Array bQ},NInv ky a b out na nb->k<=na->(∀i (hi:i<a.size),na-k<=i->i<na->∀j (hj:j<b.size),j<nb->O.kle (ky b[j]) (ky a[i]))->NInv ky a b (out++(a.extract (na-k) na).reverse) (na-k) nb
 |0,out,M,_,_=>by
  have e:a.extract (na-0) na=#[]:=by apply hU;simp
  rw[e];simpa using M
 |k+1,out,M,h,hb=>by
  have ih:=NInv.manyA ua k M (by lia) λi hi h1 h2=>hb i hi (by lia) h2
  have Bh:=M.la;rw[show na-k=(na-(k+1))+1 by lia]at ih;have:=ih.stepA ua (show na-(k+1)<a.size by lia) λj hj h1=>hb (na-(k+1)) (by lia) (ay _) (by lia) j hj h1
  rw[a6Y (by lia) (by lia) Bh]at this;exact this
theorem NInv.manyB(ub:UpA ky b):∀(k:Nat) {out:Array bQ},NInv ky a b out na nb->k<=nb->(∀j (hj:j<b.size),nb-k<=j->j<nb->∀i (hi:i<a.size),i<na->O.kle (ky a[i]) (ky b[j]))->NInv ky a b (out++(b.extract (nb-k) nb).reverse) na (nb-k)
 |0,out,M,_,_=>by
  have e:b.extract (nb-0) nb=#[]:=by apply hU;simp
  rw[e];simpa using M
 |k+1,out,M,h,hb=>by
  have ih:=NInv.manyB ub k M (by lia) λi hi h1 h2=>hb i hi (by lia) h2
  have Bg:=M.lb;rw[show nb-k=(nb-(k+1))+1 by lia]at ih;have:=ih.stepB ub (show nb-(k+1)<b.size by lia) λj hj h1=>hb (nb-(k+1)) (by lia) (ay _) (by lia) j hj h1
  rw[a6Y (by lia) (by lia) Bg]at this;exact this
def NInv.all(M:NInv ky a b out 0 0):Q5 ky a b out.reverse:=by
 refine⟨?_,?_⟩
 ·rw[ma];refine (List.reverse_perm _).trans ?_;simpa using M.pm
 ·rw[ma,uW];exact M.up
def a2J{out c:Array bQ}:(out++c.reverse).reverse=c++out.reverse:=by apply hU;simp
def NInv.doneA(M:NInv ky a b out 0 nb)(ub:UpA ky b):Q5 ky a b (a.extract 0 0++b.extract 0 nb++out.reverse):=by
 have:=(NInv.manyB ub nb M (ay _) λj hj _ _ i hi h=>by lia);rw[jE]at this;have e:a.extract 0 0=#[]:=by apply hU;simp
 have:=this.all;rw[a2J]at this;rw[e,Array.empty_append];exact this
def NInv.doneB(M:NInv ky a b out na 0)(ua:UpA ky a):Q5 ky a b (a.extract 0 na++b.extract 0 0++out.reverse):=by
 have:=(NInv.manyA ua na M (ay _) λj hj _ _ i hi h=>by lia);rw[jE]at this;have e:b.extract 0 0=#[]:=by apply hU;simp
 have:=this.all;rw[a2J]at this;rw[e,hX];exact this
def NInv.first(M:NInv ky a b out na 1)(ua:UpA ky a)(ub:UpA ky b)(b0:0<b.size)(hf:∀i (hi:i<a.size),O.kle (ky b[0]) (ky a[i])):Q5 ky a b (b.extract 0 1++a.extract 0 na++out.reverse):=by
 have M1:=NInv.manyA ua na M (ay _) λi hi _ _ j hj h=>by
  have:j=0:=by lia
  subst this;exact hf i hi
 rw[jE]at M1;have M2:=(NInv.manyB ub 1 M1 (ay _) λj hj _ _ i hi h=>by lia);rw[jE]at M2;have:=M2.all;rw[a2J,a2J,<-jV]at this;exact this
end
def b3Q:Array bQ->Array bQ->StateT dq Af (Array bQ):=sortPriv% PySem.Builtin.mergeHi
section
variable {prog:bB}{w:bZ}{A:bS}{E:ak->ar->Prop}{s:ar}{κ:eY}{O:KeyOrd}{ky:bQ->O.α}{S:bQ->Prop}{st:dq}
def a6Z(H:CmpS prog w A s κ O ky S)(hk:kindOf st=κ)(ua:UpA ky a)(ub:UpA ky b)(sa:∀i (h:i<a.size),S a[i])(sb:∀i (h:i<b.size),S b[i])(a0:0<a.size)(b0:0<b.size)(hf:O.klt (ky b[0]) (ky a[0]))(hl:∀j (hj:j<b.size),O.klt (ky b[j]) (ky (a[a.size-1]'(by lia))))
  (q:∀out cL,SameG st cL->Q5 ky a b out->Q out cL):sU (aV prog w) A E s (b3Q a b) Q st:=by
 have M0:NInv ky a b #[a[a.size-1]'(by lia)] (a.size-1) b.size:=by
  have M:NInv ky a b #[] (a.size-1+1) b.size:=⟨by lia,ay _,by simp;lia,by simp,λx hx=>by simp at hx,λx hx=>by simp at hx⟩;have:=M.stepA ua (show a.size-1<a.size by lia) λj hj _=>cO (hl j hj)
  simpa using this
 have qB:∀i (hi:i<a.size),O.kle (ky b[0]) (ky a[i]):=λi hi=>cO (fx hf (ua 0 i hi (by lia)))
 have lM:∀{out:Array bQ} {na nb:Nat},NInv ky a b out na nb->nb=1->Q5 ky a b (b.extract 0 nb++a.extract 0 na++out.reverse):=λ{out na nb} M h=>by subst h;exact M.first ua ub b0 qB
 have nj:∀{out:Array bQ} {na nb:Nat},NInv ky a b out na nb->na=0->Q5 ky a b (a.extract 0 na++b.extract 0 nb++out.reverse):=λ{out na nb} M h=>by subst h;exact M.doneA ub
 refine aR (Q6 ?_);refine aR (l9 (show a.size-1<a.size by lia) ?_);refine k6 (λc1=>ba (q _ _ (SameG.refl _) (nj M0 (eq_of_beq c1)))) λc1=>k6 (λc2=>ba (q _ _ (SameG.refl _) (lM M0 (eq_of_beq c2)))) λc2=>?_
 have Fb:a.size-1≠0:=x9 c1;have E_:b.size≠1:=x9 c2;refine aR (mV ?_);refine aR (fO (dI (I:=λx c cL=>SameG st cL/\∃na nb out mg,c=(xn,na,nb,out,mg)/\NInv ky a b out na nb/\0<na/\1<nb/\na+nb+x+1<=a.size+b.size)
  (Q:=λc cL=>SameG st cL/\∃r z,c=(cz r,z)/\Q5 ky a b r) ?ostep ?ofin ⟨SameG.refl _,a.size-1,b.size,_,_,rfl,M0,by lia,by lia,by lia⟩) ?opost)
 case opost=>
  rintro c cL ⟨hs,r,z,rfl,hm⟩;exact ba (q r cL hs hm)
 case ofin=>
  rintro c cL ⟨hs,na,nb,out,mg,rfl,M,h1,h2,h3⟩;lia
 case ostep=>
  rintro x c cL _ hx ⟨hs,na,nb,out,mg,rfl,M,h1,h2,h3⟩;have Bh:=M.la;have Bg:=M.lb;refine aR (fO (dI (I:=λx' c fy=>SameG st fy/\∃lr lh jh ac bc,c=(xn,lr,lh,jh,ac,bc)/\NInv ky a b jh lr lh/\0<lr/\1<lh/\lr+lh+x'=na+nb)
   (Q:=λc fy=>SameG st fy/\((∃r z,c=(cz r,z)/\Q5 ky a b r)\/∃lr lh jh ac bc,c=(xn,lr,lh,jh,ac,bc)/\NInv ky a b jh lr lh/\0<lr/\1<lh/\lr+lh+1<=na+nb)) ?istep ?ifin ⟨hs,na,nb,out,_,_,rfl,M,h1,h2,by lia⟩) ?ipost)
  case ifin=>
   rintro c fy ⟨jf,lr,lh,jh,ac,bc,rfl,M',g1,g2,g3⟩;exact⟨jf,.inr ⟨_,_,_,_,_,rfl,M',g1,g2,by lia⟩⟩
  case istep=>
   rintro x' c fy _ vw ⟨jf,lr,lh,jh,ac,bc,rfl,M',g1,g2,g3⟩;have ja:lr-1<a.size:=by have:=M'.la;lia
   have jb:lh-1<b.size:=by have:=M'.lb;lia
   refine aR (l9 jb (aR (l9 ja ?_)));refine aR (a3y H (jf.1.trans hk) (sb _ jb) (sa _ ja) (k6 (λc=>?_) λc=>?_))
   ·have M2:=NInv.stepA (na:=lr-1) (by rw[show lr-1+1=lr by lia];exact M') ua ja λj hj h=>cO (KeyOrd.klt_of_kle_of_klt (ub j (lh-1) jb (by lia)) c)
    refine aR (l9 ja (k6 (λd=>ba ⟨jf,.inl ⟨_,_,rfl,nj M2 (eq_of_beq d)⟩⟩) λd=>?_));have e:lr-1≠0:=x9 d;exact k6 (λ_=>ba ⟨jf,.inr ⟨lr-1,lh,_,_,_,rfl,M2,by lia,g2,by lia⟩⟩) λ_=>ba ⟨jf,lr-1,lh,_,_,_,rfl,M2,by lia,g2,by lia⟩
   ·have c:=fN.mpr c;have M2:=NInv.stepB (nb:=lh-1) (by rw[show lh-1+1=lh by lia];exact M') ub jb λi hi h=>dg (ua i (lr-1) ja (by lia)) (show O.kle (ky a[lr-1]) (ky b[lh-1]) from c)
    refine aR (l9 jb (k6 (λd=>ba ⟨jf,.inl ⟨_,_,rfl,lM M2 (eq_of_beq d)⟩⟩) λd=>?_));have e:lh-1≠1:=x9 d;exact k6 (λ_=>ba ⟨jf,.inr ⟨lr,lh-1,_,_,_,rfl,M2,g1,by lia,by lia⟩⟩) λ_=>ba ⟨jf,lr,lh-1,_,_,_,rfl,M2,g1,by lia,by lia⟩
  case ipost=>
   rintro c fy ⟨jf,⟨r,z,rfl,hm⟩|⟨lr,lh,jh,ac,bc,rfl,M',g1,g2,g3⟩⟩
   ·exact ba ⟨jf,r,_,rfl,hm⟩
   refine aR (Q6 ?_);refine aR (fO (dI (I:=λ_ c jA=>SameG st jA/\∃i2 j2 o2 mg ac bc,c=(xn,i2,j2,o2,mg,ac,bc)/\NInv ky a b o2 i2 j2/\0<i2/\1<j2/\i2+j2<=lr+lh)
    (Q:=λc jA=>SameG st jA/\((∃r z,c=(cz r,z)/\Q5 ky a b r)\/∃i2 j2 o2 mg ac bc,c=(xn,i2,j2,o2,mg,ac,bc)/\NInv ky a b o2 i2 j2/\0<i2/\1<j2/\i2+j2<=lr+lh)) ?gstep ?gfin ⟨jf,lr,lh,jh,_,_,_,rfl,M',g1,g2,ay _⟩) ?gpost)
   case gfin=>
    rintro c jA ⟨nh,x⟩;exact⟨nh,.inr x⟩
   case gpost=>
    rintro c jA ⟨nh,⟨r,z,rfl,hm⟩|⟨i2,j2,o2,sZ,Ae,Ac,rfl,M2,k1,k2,k3⟩⟩
    ·exact ba ⟨nh,r,_,rfl,hm⟩
    refine aR (a1d λkO tG=>ba ?_);exact⟨nh.trans tG,i2,j2,o2,_,rfl,M2,k1,k2,by lia⟩
   case gstep=>
    rintro y c jA _ hy ⟨nh,i2,j2,o2,sZ,Ae,Ac,rfl,M2,k1,k2,k3⟩;have ja:=M2.la;have jb:=M2.lb;have vn:j2-1<b.size:=by lia
    dsimp only
    refine' Q7 (γ:=Nat) (δ:=True) (R:=λ_ _=>True) (λmg tt _=>?tl0) λtl=>?mn0
    case mn0=>
     have u:=trivial;refine k6 (λ_=>?_) λ_=>?_
     ·generalize sZ-1=g;exact tl g u u
     ·exact tl sZ u u
    refine aR (a1d λkO tG=>?_);have ng:=nh.trans tG;refine aR (l9 vn ?_);refine aR (a3A H (ng.1.trans hk) (ua.part _ _) (λi h _ _=>sa i h) (sb _ vn) (by lia) (by lia) λk q1 q2 q3=>?_)
    dsimp only
    generalize lW:i2-k=ac;refine' Q7 (R:=λi3 o3=>NInv ky a b o3 i3 j2/\i3=k/\0<i3) (λi3 o3 h3=>?tl1) λtl=>?mn1
    case mn1=>
     refine k6 (λzj=>?_) λzj=>?_
     ·have M3:=NInv.manyA ua (i2-k) M2 (by lia) λi hi h1 h2 j hj h3=>dg (ub j (j2-1) vn (by lia)) (cO (q3 i hi (by lia) (by lia)))
      rw[show i2-(i2-k)=k by lia]at M3;refine k6 (λd=>ba ⟨ng,.inl ⟨_,_,rfl,nj M3 (eq_of_beq d)⟩⟩) λd=>?_
      have e1:=x9 d;generalize o2++(a.extract k i2).reverse=o3 at M3 ⊢;obtain⟨i3,ei⟩:∃i3,i3=k:=⟨_,rfl⟩;rw[<-ei]at M3 ⊢;exact tl i3 o3 ⟨M3,ei,by lia⟩
     ·exact tl i2 o2 ⟨M2,by lia,k1⟩
    obtain⟨M3,ei,h0⟩:=h3;have M4:=NInv.stepB (nb:=j2-1) (by rw[show j2-1+1=j2 by lia];exact M3) ub vn λi hi h=>q2 i hi (by lia) (by lia)
    refine aR (l9 vn (k6 (λd=>ba ⟨ng,.inl ⟨_,_,rfl,lM M4 (eq_of_beq d)⟩⟩) λd3=>?_));have e3:=x9 d3;have pJ:i3-1<a.size:=by lia
    refine aR (l9 pJ ?_);refine aR (a3B H (ng.1.trans hk) (ub.part _ _) (λi h _ _=>sb i h) (sa _ pJ) (by lia) (by lia) λk' r1 r2 r3=>?_)
    dsimp only
    generalize FU:j2-1-k'=bc;refine' Q7 (R:=λj3 o4=>NInv ky a b o4 i3 j3/\j3=k'/\1<j3) (λj3 o4 h3=>?tl2) λtl=>?mn2
    case mn2=>
     refine k6 (λrN=>?_) λrN=>?_
     ·have M5:=NInv.manyB ub (j2-1-k') M4 (by lia) λj hj h1 h2 i hi h3=>dg (ua i (i3-1) pJ (by lia)) (r3 j hj (by lia) (by lia))
      rw[show j2-1-(j2-1-k')=k' by lia]at M5;refine k6 (λd=>ba ⟨ng,.inl ⟨_,_,rfl,lM M5 (eq_of_beq d)⟩⟩) λd4=>k6 (λd6=>?_) λd6=>?_
      ·have e6:k'=0:=eq_of_beq d6;refine ba ⟨ng,.inl ⟨_,_,rfl,?_⟩⟩;have BU:=M5;rw[e6]at BU ⊢;exact BU.doneB ua
      have e4:=x9 d4;have e6:=x9 d6;generalize o3.push b[j2-1]++(b.extract k' (j2-1)).reverse=o4 at M5 ⊢;obtain⟨j3,ej⟩:∃j3,j3=k':=⟨_,rfl⟩;rw[<-ej]at M5 ⊢;exact tl j3 o4 ⟨M5,ej,by lia⟩
     ·generalize o3.push b[j2-1]=o4 at M4 ⊢;exact tl (j2-1) o4 ⟨M4,by lia,by lia⟩
    obtain⟨M5,ej,h1⟩:=h3;have M6:=NInv.stepA (na:=i3-1) (by rw[show i3-1+1=i3 by lia];exact M5) ua pJ λj hj h=>cO (r2 j hj (by lia) (by lia))
    refine aR (l9 pJ (k6 (λd=>ba ⟨ng,.inl ⟨_,_,rfl,nj M6 (eq_of_beq d)⟩⟩) λd=>?_));have e5:=x9 d;exact k6 (λ_=>ba ⟨ng,.inr ⟨_,_,_,_,_,_,rfl,M6,by lia,by lia,by lia⟩⟩) λ_=>ba ⟨ng,_,_,_,_,_,_,rfl,M6,by lia,by lia,by lia⟩
end
theorem a9P{α:Type}(p0:Nat):∀(l:List α) (n:Nat) (arr:Array α),p0+n+l.length<=arr.size->((l.zipIdx n).foldl (λa (q:α×Nat)=>a.setIfInBounds (p0+q.2) q.1) arr).toList=arr.toList.take (p0+n)++l++arr.toList.drop (p0+n+l.length)
 |[],n,arr,h=>by simp
 |x::l,n,arr,h=>by
  rw[aS]at h;rw[List.zipIdx_cons,Gu,a9P p0 l (n+1) _ (by rw[Array.size_setIfInBounds];lia),Array.toList_setIfInBounds];have hl:p0+n<arr.toList.length:=by rw[aP];lia
  have e1:(arr.toList.set (p0+n) x).take (p0+(n+1))=arr.toList.take (p0+n)++[x]:=by
   rw[show p0+(n+1)=(p0+n)+1 by lia,take_snoc (by rw[gU];exact hl),xX (ay _),List.getElem_set_self]
  have e2:(arr.toList.set (p0+n) x).drop (p0+(n+1)+l.length)=arr.toList.drop (p0+n+(x::l).length):=by
   rw[xZ (by lia),aS]
   congr 1;lia
  rw[e1,e2];simp
section
variable {prog:bB}{w:bZ}{A:bS}{E:ak->ar->Prop}{s:ar}{κ:eY}{O:KeyOrd}{ky:bQ->O.α}{S:bQ->Prop}{st:dq}
def b6F(h:Q ⟨⟩ cL):sU (aV prog w) A E s (set cL:StateT dq Af PUnit) Q st:=by
 unfold sU;rw[StateT.run_set];exact aE ⟨rfl,h⟩
def a2g{arr:Array bQ}{base n:Nat}(u:UpR ky arr base n)(hn:base+n<=arr.size){lo hi:Nat}(h1:base<=lo)(h2:lo<=hi)(h3:hi<=base+n):UpA ky (arr.extract lo hi):=by
 intro i j hj h;rw[nB]at hj;rw[dP,dP];exact u (lo+i) (lo+j) (by lia) (by lia) (by lia) (by lia)
structure Fused (ky:bQ->O.α) (arr mD:Array bQ) (lo hi:Nat):Prop where
 pm:mD.toList.Perm arr.toList
 out:∀t,t<lo\/hi<=t->mD[t]?=arr[t]?
 up:UpR ky mD lo (hi-lo)
def a7a(H:CmpS prog w A s κ O ky S)(hk:kindOf st=κ){i sa na pw sb nb yk:Nat}(p1:(cD st)[i]?=cz (sa,na,pw))(p2:(cD st)[i+1]?=cz (sb,nb,yk))(yP:sb=sa+na)(xq:0<na)(yq:0<nb)(kN:sb+nb<=(a_ st).size)(sS:∀i (h:i<(a_ st).size),S (a_ st)[i])(u1:UpR ky (a_ st) sa na)(u2:UpR ky (a_ st) sb nb)(hfl:fP st=xn){Q:Bool->dq->Prop}
  (q:∀cL,kindOf cL=kindOf st->fP cL=xn->cD cL=((cD st).setIfInBounds i (sa,na+nb,pw)).eraseIdxIfInBounds (i+1)->Fused ky (a_ st) (a_ cL) sa (sb+nb)->Q yn cL):sU (aV prog w) A E s (mergeAt' i) Q st:=by
 refine aR (mV ?_);rw[p1,p2]
 dsimp only
 refine aR (b6F ?_);have b0:sb<(a_ st).size:=by lia
 refine aR (l9 b0 ?_);refine aR (a3A H (by exact hk) u1 (λi h _ _=>sS i h) (sS _ b0) (by lia) xq λk k1 k2 k3=>?_)
 dsimp only
 have sN:(∀i (hi:i<(a_ st).size),sa<=i->i<sb->O.kle (ky (a_ st)[i]) (ky (a_ st)[sb]))->Fused ky (a_ st) (a_ st) sa (sb+nb):=λh=>⟨ir _,λ_ _=>rfl,λi j hj gO h1 h2=>by
  rcases dH j sb with c|c
  ·exact u1 i j hj gO h1 (by lia)
  ·rcases dH i sb with d|d
   ·exact dg (h i (by lia) h1 d) (u2 sb j hj c (ay _) (by lia))
   ·exact u2 i j hj gO d (by lia)⟩
 by_cases c1:(na-k==0)=yn
 ·rw[aB c1];have e:na-k=0:=by simpa using c1
  exact ba (q _ rfl hfl rfl (sN λi hi h1 h2=>k2 i hi h1 (by lia)))
 rw[aJ c1];have e1:na-k≠0:=by simpa using c1
 have al:sa+k+(na-k)-1<(a_ st).size:=by lia
 refine aR (l9 al ?_);refine aR (a3B H (by exact hk) u2 (λi h _ _=>sS i h) (sS _ al) (by lia) (by lia) λm m1 m2 m3=>?_)
 dsimp only
 by_cases c2:(m==0)=yn
 ·rw[aB c2];have e:m=0:=by simpa using c2
  refine ba (q _ rfl hfl rfl (sN λi hi h1 h2=>?_));refine dg (u1 i (sa+k+(na-k)-1) al (by lia) h1 (by lia)) (m3 sb b0 (by lia) (by lia))
 rw[aJ c2];have e2:m≠0:=by simpa using c2
 have xs:((a_ st).extract (sa+k) sb).size=na-k:=by rw[nB];lia
 have ys:((a_ st).extract sb (sb+m)).size=m:=by rw[nB];lia
 have ux:UpA ky ((a_ st).extract (sa+k) sb):=a2g u1 (by lia) (by lia) (by lia) (by lia);have uy:UpA ky ((a_ st).extract sb (sb+m)):=a2g u2 (by lia) (by lia) (by lia) (by lia);have sx:∀i (h:i<((a_ st).extract (sa+k) sb).size),S ((a_ st).extract (sa+k) sb)[i]:=λi h=>by rw[dP];exact sS _ _
 have sy:∀i (h:i<((a_ st).extract sb (sb+m)).size),S ((a_ st).extract sb (sb+m))[i]:=λi h=>by rw[dP];exact sS _ _
 have hf:O.klt (ky (((a_ st).extract sb (sb+m))[0]'(by lia))) (ky (((a_ st).extract (sa+k) sb)[0]'(by lia))):=by
  rw[dP,dP];exact k3 (sa+k+0) (by lia) (by lia) (by lia)
 have hl:∀j (hj:j<((a_ st).extract sb (sb+m)).size),O.klt (ky ((a_ st).extract sb (sb+m))[j]) (ky (((a_ st).extract (sa+k) sb)[((a_ st).extract (sa+k) sb).size-1]'(by lia))):=λj hj=>by
  rw[dP,dP];have:=m2 (sb+j) (by lia) (by lia) (by lia);simp only[xs];have e:sa+k+(na-k-1)=sa+k+(na-k)-1:=by lia
  simp only[e];exact this
 have fin:∀out cL,SameG (setPending st (((cD st).setIfInBounds i (sa,na+nb,pw)).eraseIdxIfInBounds (i+1))) cL->Q5 ky ((a_ st).extract (sa+k) sb) ((a_ st).extract sb (sb+m)) out->
   sU (aV prog w) A E s (do
    modify λs=>setArr s (out.toList.zipIdx.foldl (λa (p,j)=>a.setIfInBounds (sa+k+j) p) (a_ s))
    return (fP (<-get)).isNone) Q cL:=by
  intro out cL ⟨g1,g2,g3,g4⟩ hm;have os:out.size=na-k+m:=by
   have:=hm.1.length_eq;rw[aA,aP,aP,aP,xs,ys]at this;exact this
  have ni:a_ cL=a_ st:=g2;have wl:=a9P (sa+k) out.toList 0 (a_ st) (by rw[aP];lia);rw[Nat.add_zero,aP]at wl;refine aR (me (aR (mV (ba ?_))));have ff:(fP cL).isNone=yn:=by rw[show fP cL=fP st from g4,hfl];rfl
  show Q (fP cL).isNone _;rw[ff];refine q _ g1 (by show fP cL=xn;rw[show fP cL=fP st from g4,hfl]) g3 ?_;show Fused ky (a_ st) (out.toList.zipIdx.foldl (λa (q:bQ×Nat)=>a.setIfInBounds (sa+k+q.2) q.1) (a_ cL)) sa (sb+nb);rw[ni];generalize hW:out.toList.zipIdx.foldl (λa (q:bQ×Nat)=>a.setIfInBounds (sa+k+q.2) q.1) (a_ st)=W at wl;have AM:((a_ st).extract (sa+k) sb).toList++((a_ st).extract sb (sb+m)).toList=((a_ st).toList.drop (sa+k)).take (na-k+m):=by
   rw[gE,gE];simp only[jZ];rw[show sb-(sa+k)=na-k by lia,show sb+m-sb=m by lia,List.take_add,List.drop_drop,show sa+k+(na-k)=sb by lia]
  have ws:W.size=(a_ st).size:=by
   have:=dE d_ wl;rw[aA,aA,dZ,gH,aP,aP,aP]at this;lia
  have lo:∀t,t<sa+k->W[t]?=(a_ st)[t]?:=λt ht=>by
   rw[<-bR,wl,aN,dw (by rw[dZ,aP];lia),kF ht,bR]
  have hi:∀t,sa+k+out.size<=t->W[t]?=(a_ st)[t]?:=λt ht=>by
   rw[<-bR,wl,cu (by rw[aA,dZ,aP,aP];lia),Am,aA,dZ,aP,aP,<-bR]
   congr 1;lia
  have mid:∀t,t<out.size->W[sa+k+t]?=out[t]?:=λt ht=>by
   rw[<-bR,wl,aN,cu (by rw[dZ,aP];lia),dZ,aP,dw (by rw[aP];lia),bR]
   congr 1;lia
  have src:∀x∈out.toList,∃u,∃h:u<(a_ st).size,sa+k<=u/\u<sb+m/\x=(a_ st)[u]:=λx hx=>by
   have h1:=hm.1.mem_iff.mp hx;rw[AM]at h1;obtain⟨v,hv,e⟩:=jc.mp h1;rw[dZ,gH,aP]at hv;refine⟨sa+k+v,by lia,by lia,by lia,?_⟩;rw[<-e,List.getElem_take,BX,bW]
  refine⟨?_,λt ht=>?_,λt1 t2 h2 Gc hlo tR=>?_⟩
  ·rw[wl];have e:(a_ st).toList=(a_ st).toList.take (sa+k)++((a_ st).toList.drop (sa+k)).take (na-k+m)++(a_ st).toList.drop (sa+k+out.size):=by
    have e2:(a_ st).toList.drop (sa+k+(na-k+m))=((a_ st).toList.drop (sa+k)).drop (na-k+m):=by rw[List.drop_drop]
    rw[os,aN,e2,iH,iH]
   conv=>rhs;rw[e]
   refine uq _ (gq _ ?_);rw[<-AM];exact hm.1
  ·rcases ht with h|h
   ·exact lo t (by lia)
   ·exact hi t (by lia)
  ·have EM:∀t (h:t<W.size) (h':t<(a_ st).size),t<sa+k\/sa+k+out.size<=t->W[t]=(a_ st)[t]:=λt h h' ht=>by
    have:=ht.elim (lo t) (hi t);rw[bA h,bA h']at this;exact aH this
   have md:∀t (h:t<W.size),sa+k<=t->t<sa+k+out.size->∃h':t-(sa+k)<out.size,W[t]=out[t-(sa+k)]:=λt h ht CZ=>by
    have:=mid (t-(sa+k)) (by lia);rw[show sa+k+(t-(sa+k))=t by lia,bA h,bA (by lia)]at this;exact⟨by lia,aH this⟩
   have any:∀t (h:t<W.size),sa<=t->t<sb+nb->∃u,∃h':u<(a_ st).size,W[t]=(a_ st)[u]/\(u=t\/sa+k<=u/\u<sb+m/\sa+k<=t/\t<sa+k+out.size):=λt h ht CZ=>by
    by_cases c:t<sa+k\/sa+k+out.size<=t
    ·exact⟨t,by lia,EM t h _ c,.inl rfl⟩
    ·obtain⟨h',e⟩:=md t h (by lia) (by lia);obtain⟨u,hu,CW,CV,e'⟩:=src _ (kG h');exact⟨u,hu,e.trans e',.inr ⟨CW,CV,by lia,by lia⟩⟩
   have w1:t1<W.size:=by lia
   obtain⟨a,ha,ea,ca⟩:=any t1 w1 hlo (by lia);obtain⟨b,hb,eb,cb⟩:=any t2 h2 (by lia) (by lia);by_cases c:t1<sa+k
   ·rw[ea,eb];rcases dH b sb with z|z
    ·exact u1 a b hb (by lia) (by lia) (by lia)
    ·rcases dH a sb with y|y
     ·exact dg (k2 a ha (by lia) (by lia)) (u2 sb b hb z (ay _) (by lia))
     ·lia
   by_cases d:sa+k+out.size<=t2
   ·rw[ea,eb];rcases dH a sb with y|y
    ·exact dg (u1 a (sa+k+(na-k)-1) al (by lia) (by lia) (by lia)) (m3 b hb (by lia) (by lia))
    ·exact u2 a b hb (by lia) y (by lia)
   obtain⟨nE,e1⟩:=md t1 w1 (by lia) (by lia);obtain⟨mS,e2⟩:=md t2 h2 (by lia) (by lia);rcases dH t1 t2 with y|y
   ·have:=rl.mp hm.2 (t1-(sa+k)) (t2-(sa+k)) (by rw[aP];lia) (by rw[aP];lia) (by lia)
    rwa[bW,bW,<-e1,<-e2]at this
   ·have:t1=t2:=by lia
    subst this;exact eG _
 split
 ·exact aR (a6X H (by exact hk) ux uy sx sy (by lia) (by lia) hf hl λout cL hs hm=>fin out cL hs hm)
 ·exact aR (a6Z H (by exact hk) ux uy sx sy (by lia) (by lia) hf hl λout cL hs hm=>fin out cL hs hm)
end
def a7b{α:Sort _}{P:α->Prop}{G:Prop}(code:α)(h:P code)(k:P code->G):G:=k h
section
variable {prog:bB}{w:bZ}{A:bS}{E:ak->ar->Prop}{s:ar}{κ:eY}{O:KeyOrd}{ky:bQ->O.α}{S:bQ->Prop}{st:dq}
def kq(ky:bQ->O.α)(d:O.α)(arr:Array bQ)(t:Nat):O.α:=(arr[t]?.map ky).getD d
def X4{xs ys:Array bQ}(h:xs[i]?=ys[j]?):kq ky d xs i=kq ky d ys j:=by unfold kq;rw[h]
def a9Q{arr:Array bQ}(h:t<arr.size):kq ky d arr t=ky arr[t]:=by unfold kq;rw[bA h];rfl
def a1F{xs:Array bQ}(hj:j<=xs.size)(k:Nat):kq ky d (nD xs i j ((j-i) / 2)) k=if i<=k/\k<j then kq ky d xs (i+j-1-k) else kq ky d xs k:=by
 have e:=getElem?_mirror_all (i:=i) hj k
 split
 ·rename_i h;rw[aB h]at e;exact X4 e
 ·rename_i h;rw[aJ h]at e;exact X4 e
def N3{xs:Array bQ}(hj:j<=xs.size)(heq:∀k,i<=k->k<j->kq ky d xs k=kq ky d xs (j-1))(k:Nat):kq ky d (nD xs i j ((j-i) / 2)) k=kq ky d xs k:=by
 rw[a1F hj]
 split
 ·rw[heq _ (by lia) (by lia),heq k (by lia) (by lia)]
 ·rfl
def AscTo(ky:bQ->O.α)(d:O.α)(arr:Array bQ)(lo n:Nat):Prop:=∀i j,i<=j->j<n->O.kle (kq ky d arr (lo+i)) (kq ky d arr (lo+j))
def a3C(ky:bQ->O.α)(d:O.α)(arr:Array bQ)(lo n:Nat):Prop:=∀i j,i<=j->j<n->O.kle (kq ky d arr (lo+j)) (kq ky d arr (lo+i))
def AscTo.up{d:O.α}{arr:Array bQ}{lo n:Nat}(h:AscTo ky d arr lo n):UpR ky arr lo n:=λi j hj gO h1 h2=>by
 have:=h (i-lo) (j-lo) (by lia) (by lia);rw[show lo+(i-lo)=i by lia,show lo+(j-lo)=j by lia,a9Q hj,a9Q (show i<arr.size by lia)]at this;exact this
structure SB (S:bQ->Prop) (κ:eY) (kM st:dq) (lo hi:Nat):Prop where
 kind:kindOf st=κ
 fl:fP st=xn
 pn:cD st=cD kM
 pm:(a_ st).Perm (a_ kM)
 out:∀t,t<lo\/hi<=t->(a_ st)[t]?=(a_ kM)[t]?
 all:∀i (h:i<(a_ st).size),S (a_ st)[i]
theorem SB.size{kM:dq}{lo hi:Nat}(h:SB S κ kM st lo hi):(a_ st).size=(a_ kM).size:=by have:=(fD.mp h.pm).length_eq;simpa using this
def SB.mod{kM:dq}{lo hi:Nat}(h:SB S κ kM st lo hi){xs:Array bQ}(p:xs.Perm (a_ st))(o:∀t,t<lo\/hi<=t->xs[t]?=(a_ st)[t]?):SB S κ kM (setArr st xs) lo hi:=by
 refine⟨h.kind,h.fl,h.pn,p.trans h.pm,λt ht=>(o t ht).trans (h.out t ht),λi hi=>?_⟩;have hm:xs[i]∈(a_ st).toList:=(fD.mp p).mem_iff.mp (kG hi);obtain⟨j,hj,e⟩:=jc.mp hm;show S xs[i];rw[<-e,bW];exact h.all j (by simpa using hj)
def SB.mir{kM:dq}{lo hi i j:Nat}(h:SB S κ kM st lo hi)(h1:lo<=i)(h2:j<=hi)(h3:j<=(a_ st).size):SB S κ kM (setArr st (nD (a_ st) i j ((j-i) / 2))) lo hi:=h.mod (mirror_perm _ _ _ _) λt ht=>by
 rw[getElem?_mirror_all h3,aJ (by lia)]
def L8(H:CmpS prog w A s κ O ky S){d:O.α}{kM:dq}{lo hi i j:Nat}(B:SB S κ kM st lo hi)(mO:i<(a_ st).size)(qA:j<(a_ st).size){Q:Option Bool->dq->Prop}(h:Q (cz (O.blt (kq ky d (a_ st) i) (kq ky d (a_ st) j))) st):sU (aV prog w) A E s (ltAt' i j) Q st:=by
 rw[ltAt'_eq];refine aR (mV ?_)
 dsimp only
 refine aR (l9 mO (aR (l9 qA ?_)));rw[a9Q mO,a9Q qA]at h;exact a3y H B.kind (B.all _ _) (B.all _ _) h
def a1e(h:Q () (setArr st (nD (a_ st) i j ((j-i) / 2)))):sU (aV prog w) A E s (reverseSlice' i j) Q st:=by
 rw[reverseSlice'_eq];exact me h
def a4q(H:CmpS prog w A s κ O ky S){d:O.α}{kM:dq}{lo ij:Nat}(B:SB S κ kM st lo (lo+ij))(hn:lo+ij<=(a_ kM).size)(h1:1<=ij){Q:Option Nat->dq->Prop}
  (q:∀m cL,SB S κ kM cL lo (lo+ij)->1<=m->m<=ij->AscTo ky d (a_ cL) lo m->Q (cz m) cL):sU (aV prog w) A E s (countRun' lo ij) Q st:=by
 have Ad:∀{cL:dq},AscTo ky d (a_ cL) lo 1:=λ{cL} i j gO hj=>by
  have:i=j:=by lia
  subst this;exact eG _
 have pA:∀{cL:dq} {n:Nat},1<=n->AscTo ky d (a_ cL) lo n->O.blt (kq ky d (a_ cL) (lo+n)) (kq ky d (a_ cL) (lo+n-1))=yp->AscTo ky d (a_ cL) lo (n+1):=λ{cL n} xx ha hb i j gO hj=>by
  by_cases c:j<n
  ·exact ha i j gO c
  ·have:j=n:=by lia
   subst this;by_cases e:i=j
   ·subst e;exact eG _
   ·have h2:=ha i (j-1) (by lia) (by lia);rw[show lo+(j-1)=lo+j-1 by lia]at h2;exact dg h2 hb
 have pf:∀{cL:dq} {xs:Array bQ} {x:Nat},(∀k,kq ky d xs k=kq ky d (a_ cL) k)->1<=x->a3C ky d (a_ cL) lo x->O.kle (kq ky d (a_ cL) (lo+x)) (kq ky d (a_ cL) (lo+x-1))->a3C ky d xs lo (x+1):=λ{cL xs x} hk hx D2 hb i j gO hj=>by
  rw[hk,hk];by_cases vW:j<x
  ·exact D2 i j gO vW
  ·have:j=x:=by lia
   subst this;by_cases e:i=j
   ·subst e;exact eG _
   ·have h2:=D2 i (j-1) (by lia) (by lia);rw[show lo+(j-1)=lo+j-1 by lia]at h2;exact dg hb h2
 rw[countRun'_eq];refine aR (fO (dI (I:=λx c cL=>cL=st/\c=(xn,x)/\AscTo ky d (a_ st) lo x)
  (Q:=λc cL=>cL=st/\∃n,c=(xn,n)/\1<=n/\n<=ij/\AscTo ky d (a_ st) lo n/\(n=ij\/O.klt (kq ky d (a_ st) (lo+n)) (kq ky d (a_ st) (lo+n-1)))) ?astep ?afin ⟨rfl,rfl,Ad⟩) ?apost)
 case afin=>
  rintro c cL ⟨rfl,rfl,ha⟩;rw[show max 1 ij=ij by lia]at ha ⊢;exact⟨rfl,ij,rfl,h1,ay _,ha,.inl rfl⟩
 case astep=>
  rintro x c cL xr CQ ⟨rfl,rfl,ha⟩;have sz:=B.size
  dsimp only
  exact aR (L8 H (d:=d) B (by lia) (by lia) (k6 (λhb=>ba ⟨rfl,x,rfl,xr,by lia,ha,.inr hb⟩) λhb=>ba ⟨rfl,rfl,pA xr ha (fN.mpr hb)⟩))
 case apost=>
  rintro c cL ⟨rfl,n,rfl,n1,nn,ha,Dj⟩;have sz:=B.size
  dsimp only
  refine k6 (λcn=>ba (q n cL B n1 nn ha)) λcn=>?_
  have en:=x9 cn;have jk:O.klt (kq ky d (a_ cL) (lo+n)) (kq ky d (a_ cL) (lo+n-1)):=Dj.resolve_left en;refine' a7b (P:=λcode=>∀xi:dq,SB S κ kM xi lo (lo+ij)->a3C ky d (a_ xi) lo (n+1)->sU (aV prog w) A E s code Q xi) _ ?desc λdesc=>?main
  case main=>
   refine k6 (λDR=>?_) λDR=>?_
   ·refine aR (L8 H (d:=d) B (by lia) (by lia) (k6 (λoX=>ba (q n cL B n1 nn ha)) λoX=>?_))
    ·have oX:=fN.mpr oX;have gL:∀t,lo<=t->t<lo+n->kq ky d (a_ cL) t=kq ky d (a_ cL) (lo+n-1):=λt t1 t2=>by
      have a1:=ha 0 (t-lo) (by lia) (by lia);have a2:=ha (t-lo) (n-1) (by lia) (by lia);rw[show lo+0=lo by lia,show lo+(t-lo)=t by lia]at a1;rw[show lo+(t-lo)=t by lia,show lo+(n-1)=lo+n-1 by lia]at a2;exact KeyOrd.kle_antisymm a2 (dg oX a1)
     refine aR (a1e ?_);refine desc _ (B.mir (i:=lo) (j:=lo+n) (ay _) (by lia) (by lia)) λi j gO hj=>?_
     show O.kle (kq ky d (nD (a_ cL) lo (lo+n) ((lo+n-lo) / 2)) (lo+j)) (kq ky d (nD (a_ cL) lo (lo+n) ((lo+n-lo) / 2)) (lo+i));rw[N3 (by lia) gL,N3 (by lia) gL];by_cases DL:j<n
     ·rw[gL (lo+i) (by lia) (by lia),gL (lo+j) (by lia) (by lia)];exact eG _
     ·have qA:j=n:=by lia
      subst qA;by_cases mO:i=j
      ·subst mO;exact eG _
      ·rw[gL (lo+i) (by lia) (by lia)];exact cO jk
   ·have e:n=1:=by lia
    refine desc _ B λi j gO hj=>?_
    by_cases mO:i=j
    ·subst mO;exact eG _
    ·have DQ:lo+i=lo+n-1:=by lia
     have DN:lo+j=lo+n:=by lia
     rw[DQ,DN];exact cO jk
  case desc=>
   intro xi B1 D1;have Fw:=B1.size;refine aR (Q6 ?_);refine aR (fO (dI (I:=λx c k_=>∃mZ,c=(xn,x,mZ)/\SB S κ kM k_ lo (lo+ij)/\a3C ky d (a_ k_) lo x/\mZ+1<=x/\∀t,lo+x-(mZ+1)<=t->t<lo+x->kq ky d (a_ k_) t=kq ky d (a_ k_) (lo+x-1))
    (Q:=λc k_=>∃x mZ,c=(xn,x,mZ)/\n+1<=x/\x<=ij/\SB S κ kM k_ lo (lo+ij)/\a3C ky d (a_ k_) lo x/\mZ+1<=x/\∀t,lo+x-(mZ+1)<=t->t<lo+x->kq ky d (a_ k_) t=kq ky d (a_ k_) (lo+x-1)) ?dstep ?dfin ⟨0,rfl,B1,D1,by lia,λt t1 t2=>by rw[show t=lo+(n+1)-1 by lia]⟩) ?dpost)
   case dfin=>
    rintro c k_ ⟨mZ,rfl,B2,D2,q1,q2⟩;rw[show max (n+1) ij=ij by lia]at D2 q1 q2 ⊢;exact⟨ij,mZ,rfl,by lia,ay _,B2,D2,q1,q2⟩
   case dstep=>
    rintro x c k_ xr CQ ⟨mZ,rfl,B2,D2,q1,q2⟩;have Cj:=B2.size
    dsimp only
    refine aR (L8 H (d:=d) B2 (by lia) (by lia) (k6 (λlu=>?_) λlu=>?_))
    ·have su:∀xs:Array bQ,(∀k,kq ky d xs k=kq ky d (a_ k_) k)->a3C ky d xs lo (x+1):=λxs hk=>pf hk (by lia) D2 (cO lu)
     refine k6 (λtN=>?_) λtN=>?_
     ·refine aR (a1e (ba ⟨0,rfl,B2.mir (i:=lo+x-(mZ+1)) (j:=lo+x) (by lia) (by lia) (by lia),su _ (N3 (by lia) q2),by lia,λt t1 t2=>by rw[show t=lo+(x+1)-1 by lia]⟩))
     ·exact ba ⟨0,rfl,B2,su _ (λ_=>rfl),by lia,λt t1 t2=>by rw[show t=lo+(x+1)-1 by lia]⟩
    ·have lu:=fN.mpr lu;refine aR (L8 H (d:=d) B2 (by lia) (by lia) (k6 (λlJ=>?_) λlJ=>?_))
     ·exact ba ⟨x,mZ,rfl,xr,by lia,B2,D2,q1,q2⟩
     ·have lJ:=fN.mpr lJ;have wg:kq ky d (a_ k_) (lo+x)=kq ky d (a_ k_) (lo+x-1):=KeyOrd.kle_antisymm lJ lu;refine ba ⟨mZ+1,rfl,B2,pf (λ_=>rfl) (by lia) D2 (by rw[wg];exact eG _),by lia,λt t1 t2=>?_⟩;rw[show lo+(x+1)-1=lo+x by lia];by_cases zk:t=lo+x
      ·subst zk;rfl
      ·rw[wg];exact q2 t (by lia) (by lia)
   case dpost=>
    rintro c k_ ⟨x,mZ,rfl,x1,x2,B2,D2,q1,q2⟩;have Cj:=B2.size
    dsimp only
    refine' a7b (P:=λcode=>∀jA:dq,SB S κ kM jA lo (lo+ij)->a3C ky d (a_ jA) lo x->sU (aV prog w) A E s code Q jA) _ ?tl λtl=>?mn
    case mn=>
     refine k6 (λtN=>?_) λtN=>?_
     ·refine aR (a1e ?_);refine tl _ (B2.mir (i:=lo+x-(mZ+1)) (j:=lo+x) (by lia) (by lia) (by lia)) λi j gO hj=>?_
      show O.kle (kq ky d (nD (a_ k_) (lo+x-(mZ+1)) (lo+x) ((lo+x-(lo+x-(mZ+1))) / 2)) (lo+j)) (kq ky d (nD (a_ k_) (lo+x-(mZ+1)) (lo+x) ((lo+x-(lo+x-(mZ+1))) / 2)) (lo+i));rw[N3 (by lia) q2,N3 (by lia) q2];exact D2 i j gO hj
     ·exact tl _ B2 D2
    case tl=>
     intro jA B3 D3;have Fv:=B3.size;refine aR (a1e ?_);have B4:=B3.mir (i:=lo) (j:=lo+x) (ay _) (by lia) (by lia);have A4:AscTo ky d (a_ (setArr jA (nD (a_ jA) lo (lo+x) ((lo+x-lo) / 2)))) lo x:=λi j gO hj=>by
      show O.kle (kq ky d (nD (a_ jA) lo (lo+x) ((lo+x-lo) / 2)) (lo+i)) (kq ky d (nD (a_ jA) lo (lo+x) ((lo+x-lo) / 2)) (lo+j));rw[a1F (by lia),a1F (by lia),aB (by lia),aB (by lia)];have:=D3 (x-1-j) (x-1-i) (by lia) (by lia);rw[show lo+(x-1-j)=lo+(lo+x)-1-(lo+j) by lia,show lo+(x-1-i)=lo+(lo+x)-1-(lo+i) by lia]at this;exact this
     generalize setArr jA (nD (a_ jA) lo (lo+x) ((lo+x-lo) / 2))=kO at B4 A4 ⊢;refine aR (fO (dI (I:=λy c cL=>cL=kO/\c=(xn,y)/\AscTo ky d (a_ kO) lo y)
      (Q:=λc cL=>cL=kO/\∃m,c=(xn,m)/\1<=m/\m<=ij/\AscTo ky d (a_ kO) lo m) ?bstep ?bfin ⟨rfl,rfl,A4⟩) ?bpost)
     case bfin=>
      rintro c cL ⟨rfl,rfl,ha⟩;rw[show max x ij=ij by lia]at ha ⊢;exact⟨rfl,ij,rfl,h1,ay _,ha⟩
     case bstep=>
      rintro y c cL FI FH ⟨rfl,rfl,ha⟩;have Fu:=B4.size
      dsimp only
      exact aR (L8 H (d:=d) B4 (by lia) (by lia) (k6 (λhb=>ba ⟨rfl,y,rfl,by lia,by lia,ha⟩) λhb=>ba ⟨rfl,rfl,pA (by lia) ha (fN.mpr hb)⟩))
     case bpost=>
      rintro c cL ⟨rfl,m,rfl,m1,m2,ha⟩;exact ba (q m cL B4 m1 m2 ha)
def a4Y{xs:Array bQ}(hs:src<xs.size)(hd:e<=src)(k:Nat) :
  kq ky d (bubble xs src e) k=if k=src-e then kq ky d xs src else if src-e<k/\k<=src then kq ky d xs (k-1) else kq ky d xs k:=by
 have e:=getElem?_bubble hs e hd k
 split
 ·rename_i h1;rw[aB h1]at e;exact X4 e
 ·rename_i h1
  rw[aJ h1]at e
  split
  ·rename_i h2;rw[aB h2]at e;exact X4 e
  ·rename_i h2;rw[aJ h2]at e;exact X4 e
def a2C(H:CmpS prog w A s κ O ky S){d:O.α}{kM:dq}{lo hi n ok:Nat}(B:SB S κ kM st lo hi)(hn:lo+n<=(a_ kM).size)(hh:lo+n<=hi)(hok:ok<=n)(hs:AscTo ky d (a_ st) lo ok){Q:Bool->dq->Prop}
  (q:∀cL,SB S κ kM cL lo hi->AscTo ky d (a_ cL) lo n->Q yn cL):sU (aV prog w) A E s (binarySort' lo n ok) Q st:=by
 rw[binarySort'_eq];refine aR (fO (dI (I:=λk c cL=>c=(xn,())/\SB S κ kM cL lo hi/\AscTo ky d (a_ cL) lo (min k n))
  (Q:=λc cL=>c=(xn,())/\SB S κ kM cL lo hi/\AscTo ky d (a_ cL) lo n) ?step ?fin ?init) ?post)
 case post=>
  rintro c cL ⟨rfl,B',jf⟩;exact ba (q cL B' jf)
 case init=>
  refine⟨rfl,B,λi j gO hj=>?_⟩;by_cases h1:ok=0
  ·have:i=j:=by lia
   subst this;exact eG _
  ·exact hs i j gO (by lia)
 case fin=>
  rintro c cL ⟨hc,B',jf⟩;refine⟨hc,B',?_⟩
  rwa[show min (max (max ok 1) n) n=n by lia]at jf
 case step=>
  rintro k c cL FV vT ⟨rfl,B',jf⟩;rw[show min k n=k by lia]at jf;have sz:=B'.size;refine aR (fO (dI (I:=λx c fy=>fy=cL/\∃l r,c=(xn,l,r)/\l<=r/\r<=k/\r-l<=k-x/\
    (∀i,i<l->O.kle (kq ky d (a_ cL) (lo+i)) (kq ky d (a_ cL) (lo+k)))/\(∀i,r<=i->i<k->O.klt (kq ky d (a_ cL) (lo+k)) (kq ky d (a_ cL) (lo+i))))
   (Q:=λc fy=>fy=cL/\∃l r,c=(xn,l,r)/\l<=k/\
    (∀i,i<l->O.kle (kq ky d (a_ cL) (lo+i)) (kq ky d (a_ cL) (lo+k)))/\(∀i,l<=i->i<k->O.klt (kq ky d (a_ cL) (lo+k)) (kq ky d (a_ cL) (lo+i)))) ?istep ?ifin ?iinit) ?ipost)
  case iinit=>exact⟨rfl,0,k,rfl,by lia,by lia,by lia,λi hi=>by lia,λi h1 h2=>by lia⟩
  case ifin=>
   rintro c fy ⟨rfl,l,r,rfl,DA,yS,hm,hlo,tR⟩;have:l=r:=by lia
   subst this;exact⟨rfl,l,l,rfl,yS,hlo,tR⟩
  case istep=>
   rintro x c fy _ AN ⟨rfl,l,r,rfl,DA,yS,hm,hlo,tR⟩
   dsimp only
   by_cases uJ:l≥r
   ·rw[aB uJ];have:l=r:=by lia
    subst this;exact ba ⟨rfl,l,l,rfl,yS,hlo,tR⟩
   ·rw[aJ uJ];refine aR (L8 H (d:=d) B' (by lia) (by lia) ?_)
    dsimp only
    cases lu:O.blt (kq ky d (a_ fy) (lo+k)) (kq ky d (a_ fy) (lo+(l+r) / 2)) with
    |true=>
     rw[aB rfl];refine ba ⟨rfl,l,(l+r) / 2,rfl,by lia,by lia,by lia,hlo,λi h1 h2=>?_⟩;exact fx lu (jf _ _ h1 h2)
    |false=>
     simp only[br,dh];refine ba ⟨rfl,(l+r) / 2+1,r,rfl,by lia,by lia,by lia,λi h1=>?_,tR⟩;exact dg (jf i ((l+r) / 2) (by lia) (by lia)) (show O.kle _ _ from lu)
  case ipost=>
   rintro c fy ⟨rfl,l,r,rfl,FO,hlo,tR⟩;show sU _ _ _ _ (do moveDown' (lo+k) (lo+l);pure (fH (xn,()))) _ _;rw[moveDown'_eq];have lx:lo+k<(a_ fy).size:=by lia
   refine aR (me (ba ⟨rfl,B'.mod (bubble_perm _ _ _) λt ht=>?_,?_⟩))
   ·rw[getElem?_bubble lx _ (by lia),aJ (by lia),aJ (by lia)]
   rw[show min (k+1) n=k+1 by lia];intro i j gO hj;show O.kle (kq ky d (bubble (a_ fy) (lo+k) (lo+k-(lo+l))) (lo+i)) (kq ky d (bubble (a_ fy) (lo+k) (lo+k-(lo+l))) (lo+j));rw[a4Y lx (by lia),a4Y lx (by lia),show lo+k-(lo+k-(lo+l))=lo+l by lia];have nh:∀a b,lo<=a->a<=b->b<lo+k->O.kle (kq ky d (a_ fy) a) (kq ky d (a_ fy) b):=λa b h1 h2 h3=>by
    have:=jf (a-lo) (b-lo) (by lia) (by lia)
    rwa[show lo+(a-lo)=a by lia,show lo+(b-lo)=b by lia]at this
   have zo:∀a,lo+l<=a->a<lo+k->O.klt (kq ky d (a_ fy) (lo+k)) (kq ky d (a_ fy) a):=λa h1 h2=>by
    have:=tR (a-lo) (by lia) (by lia)
    rwa[show lo+(a-lo)=a by lia]at this
   repeat' split
   all_goals first
    | (exfalso;lia)
    |exact eG _
    |exact hlo _ (by lia)
    |exact cO (zo _ (by lia) (by lia))
    |exact nh _ _ (by lia) (by lia) (by lia)
def Chain(ky:bQ->O.α)(arr:Array bQ):List (Nat×Nat)->Nat->Nat->Prop
 |[],a,b=>a=b
 | (x,n)::l,a,b=>x=a/\0<n/\UpR ky arr x n/\Chain ky arr l (x+n) b
theorem Chain.len:∀{l:List (Nat×Nat)} {a b:Nat},Chain ky arr l a b->a+l.length<=b
 |[],a,b,h=>by have h:a=b:=h;simp;lia
 | (x,n)::l,a,b,⟨e,h0,_,h⟩=>by have:=h.len;rw[aS];lia
theorem Chain.app{arr:Array bQ}{l2:List (Nat×Nat)}:∀{l1:List (Nat×Nat)} {a b:Nat},Chain ky arr (l1++l2) a b↔∃c,Chain ky arr l1 a c/\Chain ky arr l2 c b
 |[],a,b=>⟨λh=>⟨a,rfl,h⟩,λ⟨c,e,h⟩=>by have e:a=c:=e;subst e;exact h⟩
 | (x,n)::l,a,b=>by
  show (x=a/\0<n/\UpR ky arr x n/\Chain ky arr (l++l2) (x+n) b)↔_;rw[Chain.app (l1:=l)];exact⟨λ⟨h1,h2,h3,c,h4,h5⟩=>⟨c,⟨h1,h2,h3,h4⟩,h5⟩,λ⟨c,⟨h1,h2,h3,h4⟩,h5⟩=>⟨h1,h2,h3,c,h4,h5⟩⟩
def UpR.congr{arr mD:Array bQ}(h:UpR ky arr x n)(e:∀t,x<=t->t<x+n->mD[t]?=arr[t]?):UpR ky mD x n:=λi j hj gO h1 h2=>by
 have ej:=e j (by lia) h2;have ei:=e i h1 (by lia);rw[bA hj]at ej;rw[bA (show i<mD.size by lia)]at ei;obtain⟨j2,xQ⟩:=qS.mp ej.symm;obtain⟨i2,xR⟩:=qS.mp ei.symm;rw[<-xQ,<-xR];exact h i j j2 gO h1 h2
theorem Chain.congr{arr mD:Array bQ}:∀{l:List (Nat×Nat)} {a b:Nat},Chain ky arr l a b->(∀t,a<=t->t<b->mD[t]?=arr[t]?)->Chain ky mD l a b
 |[],a,b,h,_=>h
 | (x,n)::l,a,b,⟨e,h0,u,h⟩,he=>by
  have hl:=h.len;exact⟨e,h0,u.congr λt t1 t2=>he t (by lia) (by lia),h.congr λt t1 t2=>he t (by lia) t2⟩
def a0E(st:dq):List (Nat×Nat):=(cD st).toList.map λr=>(r.1,r.2.1)
structure RI (S:bQ->Prop) (κ:eY) (ky:bQ->O.α) (a0:Array bQ) (st:dq) (lo:Nat):Prop where
 kind:kindOf st=κ
 fl:fP st=xn
 pm:(a_ st).Perm a0
 all:∀i (h:i<(a_ st).size),S (a_ st)[i]
 ch:Chain ky (a_ st) (a0E st) 0 lo
 hlo:lo<=a0.size
theorem RI.size{a0:Array bQ}{lo:Nat}(h:RI S κ ky a0 st lo):(a_ st).size=a0.size:=by have:=(fD.mp h.pm).length_eq;simpa using this
def a7c{α:Type}{l:List α}(h:i+1<l.length):l=l.take i++l[i]::l[i+1]::l.drop (i+2):=by
 conv=>lhs;rw[<-iH i l]
 rw[dA (show i<l.length by lia),dA h]
def a4Z(l1 l2:List α)(a b v:α):((l1++a::b::l2).set l1.length v).eraseIdx (l1.length+1)=l1++v::l2:=by
 induction l1 with
 |nil=>rfl
 |cons x l1 ih=>simp only[bp,aS,f_,List.eraseIdx_cons_succ,ih]
def a7d(p:Array α)(i:Nat)(v:α):((p.setIfInBounds i v).eraseIdxIfInBounds (i+1)).toList=(p.toList.set i v).eraseIdx (i+1):=by
 obtain⟨l⟩:=p;simp
def RI.merge(H:CmpS prog w A s κ O ky S){a0:Array bQ}{lo i:Nat}(R:RI S κ ky a0 st lo)(hi:i+1<(cD st).size){Q:Bool->dq->Prop}
  (q:∀cL,RI S κ ky a0 cL lo->(∀t,lo<=t->(a_ cL)[t]?=(a_ st)[t]?)->(cD cL).size+1=(cD st).size->Q yn cL):sU (aV prog w) A E s (mergeAt' i) Q st:=by
 have hl:i+1<(cD st).toList.length:=by rw[aP];exact hi
 have sp:=a7c hl;have yz:((cD st).toList.take i).length=i:=by rw[dZ];lia
 generalize FQ:(cD st).toList.take i=l1 at sp yz;generalize pI:(cD st).toList.drop (i+2)=l2 at sp;obtain⟨⟨sa,na,pw⟩,ea⟩:∃x,x=(cD st).toList[i]:=⟨_,rfl⟩;obtain⟨⟨sb,nb,yk⟩,eb⟩:∃x,x=(cD st).toList[i+1]:=⟨_,rfl⟩;rw[<-ea,<-eb]at sp;have p1:(cD st)[i]?=cz (sa,na,pw):=by rw[bA (by lia),ea,bW]
 have p2:(cD st)[i+1]?=cz (sb,nb,yk):=by rw[bA hi,eb,bW]
 have ch:=R.ch;rw[a0E,sp,aO,Chain.app]at ch;obtain⟨c,c1,e1,xq,u1,e2,yq,u2,c2⟩:=ch
 dsimp only at e1 xq u1 e2 yq u2 c2
 have cl:=c2.len;have Gp:=c1.len;have sz:=R.size;have Ax:=R.hlo;refine a7a H R.kind p1 p2 e2 xq yq (by lia) R.all u1 u2 R.fl λcL k' f' pe F=>q cL ⟨k'.trans R.kind,f',(fD.mpr F.pm).trans R.pm,λi hi=>?_,?_,Ax⟩ (λt ht=>F.out t (by lia)) ?_
 ·have hm:(a_ cL)[i]∈(a_ st).toList:=F.pm.mem_iff.mp (kG hi);obtain⟨j,hj,e⟩:=jc.mp hm;rw[<-e,bW];exact R.all j (by simpa using hj)
 ·have e:(cD cL).toList=l1++(sa,na+nb,pw)::l2:=by
   rw[pe,a7d,sp]
   conv=>lhs;rw[<-yz]
   exact a4Z _ _ _ _ _
  rw[a0E,e,aO,Chain.app];refine⟨c,c1.congr λt _ t2=>F.out t (by lia),e1,by dsimp only;lia,?_,?_⟩
  ·dsimp only
   have:=F.up
   rwa[show sb+nb-sa=na+nb by lia]at this
  ·dsimp only
   rw[show sa+(na+nb)=sb+nb by lia];exact c2.congr λt t1 _=>F.out t (by lia)
 ·have:=dE d_ (dE Array.toList pe);rw[a7d,sp]at this;rw[<-yz,a4Z]at this;have h2:=dE d_ sp;simp only[aP,aA,aS]at this h2;lia
def RI.pend{a0:Array bQ}{lo:Nat}(R:RI S κ ky a0 st lo){p:Array (Nat×Nat×Nat)}(e:p.toList.map (λr=>(r.1,r.2.1))=a0E st):RI S κ ky a0 (setPending st p) lo:=
 ⟨R.kind,R.fl,R.pm,R.all,by show Chain ky (a_ st) (p.toList.map _) 0 lo;rw[e];exact R.ch,R.hlo⟩
theorem RI.push{a0:Array bQ}{lo n:Nat}(R:RI S κ ky a0 st lo)(n0:0<n)(hn:lo+n<=a0.size)(u:UpR ky (a_ st) lo n):RI S κ ky a0 (setPending st ((cD st).push (lo,n,0))) (lo+n):=
 ⟨R.kind,R.fl,R.pm,R.all,by
  show Chain ky (a_ st) (((cD st).push (lo,n,0)).toList.map _) 0 (lo+n);rw[cw,aO,Chain.app];exact⟨lo,R.ch,rfl,n0,u,rfl⟩,hn⟩
def RI.sb{a0:Array bQ}{lo hi:Nat}(R:RI S κ ky a0 st lo):SB S κ st st lo hi:=⟨R.kind,R.fl,rfl,Gx _,λ_ _=>rfl,R.all⟩
def RI.ofSB{a0:Array bQ}{lo hi:Nat}{cL:dq}(R:RI S κ ky a0 st lo)(B:SB S κ st cL lo hi):RI S κ ky a0 cL lo:=
 ⟨B.kind,B.fl,B.pm.trans R.pm,B.all,by
  unfold a0E;rw[B.pn];exact R.ch.congr λt _ t2=>B.out t (.inl t2),R.hlo⟩
def b6G[Decidable c](h1:a+1<n)(h2:b+1<n):(if c then a else b)+1<n:=by split<;>assumption
def a4r(p:Array (Nat×Nat×Nat))(i pw:Nat):(p.modify i λ(x,len,_)=>(x,len,pw)).toList.map (λr=>(r.1,r.2.1))=p.toList.map λr=>(r.1,r.2.1):=by
 apply kj;intro k;rw[aQ,aQ,bR,bR,Array.getElem?_modify]
 split
 ·cases p[k]?<;>rfl
 ·rfl
def a4s(H:CmpS prog w A s κ O ky S)(d:O.α)(R0:RI S κ ky a0 st 0) 
  (q:∀cL,(a_ cL).Perm a0->fP cL=xn->UpA ky (a_ cL)->Q () cL):sU (aV prog w) A E s sortRuns' Q st:=by
 rw[sortRuns'_eq];refine aR (mV ?_)
 try dsimp only
 simp only[R0.size];refine aR (fO (dI
  (I:=λx c cL=>∃lo,c=(xn,lo)/\RI S κ ky a0 cL lo/\x<=lo)
  (Q:=λc cL=>c=(xn,a0.size)/\RI S κ ky a0 cL a0.size) ?step ?fin ⟨0,rfl,R0,ay _⟩) ?post)
 case fin=>
  rintro c cL ⟨lo,rfl,R,h⟩;have:=R.hlo;have e:lo=a0.size:=by lia
  subst e;exact⟨rfl,R⟩
 case step=>
  rintro x c cL _ hx ⟨lo,rfl,R,h⟩
  try dsimp only
  have Ax:=R.hlo;by_cases c1:lo≥a0.size
  ·rw[aB c1];have e:lo=a0.size:=by lia
   subst e;exact ba ⟨rfl,R⟩
  rw[aJ c1];have sz:=R.size;refine aR (a4q H (d:=d) R.sb (by lia) (by lia) λm k_ B2 m1 m2 A2=>?_)
  try dsimp only
  by_cases c2:m<minRun' a0.size a0.size 0
  case' pos=>
   rw[aB c2];refine aR (Q6 ?_);have f1:lo+min (a0.size-lo) (minRun' a0.size a0.size 0)<=a0.size:=by lia
   have f2:m<=min (a0.size-lo) (minRun' a0.size a0.size 0):=by lia
   generalize min (a0.size-lo) (minRun' a0.size a0.size 0)=n at f1 f2 ⊢;refine aR (a2C H (d:=d) B2 (by lia) (by lia) f2 A2 λjA B3 A3=>?_);simp only[gS,br,dh];have n0:0<n:=by lia
   have R3:=R.ofSB B3;have u3:=A3.up
  case' neg=>
   rw[aJ c2];obtain⟨n,en⟩:∃n,n=m:=⟨m,rfl⟩;obtain⟨jA,es⟩:∃jA,jA=k_:=⟨k_,rfl⟩;rw[<-en,<-es];have n0:0<n:=by lia
   have f1:lo+n<=a0.size:=by lia
   have R3:RI S κ ky a0 jA lo:=by rw[es];exact R.ofSB B2
   have u3:UpR ky (a_ jA) lo n:=by rw[es,en];exact A2.up
  all_goals
   refine aR (mV ?_);have fin:∀kO:dq,RI S κ ky a0 kO lo->UpR ky (a_ kO) lo n->∃yu,(xn,lo+n)=((xn,yu):Option Unit×Nat)/\RI S κ ky a0 (setPending kO ((cD kO).push (lo,n,0))) yu/\x+1<=yu:=λkO R4 u4=>⟨lo+n,rfl,R4.push n0 f1 u4,by lia⟩
   cases hb:(cD jA).back? with
   |none=>
    try dsimp only
    exact aR (me (ba (fin _ R3 u3)))
   |some r=>
    obtain⟨s1,n1,Fx⟩:=r
    try dsimp only
    refine aR (fO (dI (I:=λ_ c kO=>c=(xn,())/\RI S κ ky a0 kO lo/\UpR ky (a_ kO) lo n) (Q:=λc kO=>c=(xn,())/\RI S κ ky a0 kO lo/\UpR ky (a_ kO) lo n) ?_ (λ_ _ hh=>hh) ⟨rfl,R3,u3⟩) ?_)
    ·rintro y c kO _ _ ⟨rfl,R4,u4⟩
     try dsimp only
     refine aR (mV ?_);by_cases c3:(cD kO).size>1
     ·rw[aB c3,bA (by lia)];generalize (cD kO)[(cD kO).size-2]'(by lia)=r2;obtain⟨s2,n2,vg⟩:=r2
      try dsimp only
      by_cases c4:vg<=power' a0.size (2*s1+n1) (2*s1+n1+n1+n) a0.size
      ·rw[aB c4];exact ba ⟨rfl,R4,u4⟩
      ·rw[aJ c4];refine aR (R4.merge H (by lia) λpY R5 o5 _=>?_);simp only[gS,br,dh];exact ba ⟨rfl,R5,u4.congr λt t1 _=>o5 t t1⟩
     ·rw[aJ c3];exact ba ⟨rfl,R4,u4⟩
    ·rintro c kO ⟨rfl,R4,u4⟩
     try dsimp only
     exact aR (me (aR (me (ba (fin _ (R4.pend (a4r _ _ _)) u4)))))
 case post=>
  rintro c cL ⟨rfl,R⟩
  try dsimp only
  have cl:=R.ch.len;rw[a0E,ai,aP]at cl;refine aR (fO (dI (I:=λx c fy=>c=(xn,())/\RI S κ ky a0 fy a0.size/\(cD fy).size+x<=a0.size) (Q:=λc fy=>c=(xn,())/\RI S κ ky a0 fy a0.size/\(cD fy).size<=1) ?_ ?_ ⟨rfl,R,by lia⟩) ?_)
  ·rintro x c fy _ hx ⟨rfl,R2,h2⟩
   try dsimp only
   refine aR (mV ?_);by_cases c1:(cD fy).size<=1
   ·rw[aB c1];exact ba ⟨rfl,R2,c1⟩
   rw[aJ c1];refine aR (R2.merge H (b6G (by lia) (by lia)) λpY R5 _ e5=>?_);simp only[gS,br,dh];exact ba ⟨rfl,R5,by lia⟩
  ·rintro c fy ⟨rfl,R2,h2⟩;exact⟨rfl,R2,by lia⟩
  ·rintro c fy ⟨rfl,R2,h2⟩;refine ba (q fy R2.pm R2.fl ?_);have ch:=R2.ch;have sz:=R2.size;unfold a0E at ch;generalize hp:(cD fy).toList=l at ch;have hl:l.length<=1:=by rw[<-hp,aP];exact h2
   match l,hl,ch with
   |[],_,ch=>
    have ch:0=a0.size:=ch;intro i j hj gO;lia
   |[(x,n,pw)],_,⟨e1,_,u,e2⟩=>
    have e2:x+n=a0.size:=e2;intro i j hj gO;exact u i j hj gO (by dsimp only at e1 ⊢;lia) (by dsimp only at e1 ⊢;lia)
end
end VS
namespace VS
open PySem PyProof.Rows
open PySem.W (kas_item)
def b1I{α β:Type}{f:α->β}{l l':List β}(h:l.Perm l'):∀m:List α,l'=m.map f->∃m':List α,m'.Perm m/\l=m'.map f:=by
 induction h with
 |nil=>intro m e;exact⟨m,ir _,e⟩
 |cons x _ ih=>
  intro m e
  match m,e with
  |y::m,e=>
   rw[ax,gi]at e;obtain⟨m',p,e2⟩:=ih m e.2;exact⟨y::m',p.cons y,by rw[ax,e.1,e2]⟩
 |swap x y l=>
  intro m e
  match m,e with
  |a::b::m,e=>
   rw[ax,ax,gi,gi]at e;exact⟨b::a::m,List.Perm.swap a b m,by rw[ax,ax,e.1,e.2.1,e.2.2]⟩
 |trans _ _ yC yB=>
  intro m e;obtain⟨m1,p1,e1⟩:=yB m e;obtain⟨m2,p2,e2⟩:=yC m1 e1;exact⟨m2,p2.trans p1,e2⟩
section
variable {prog:bB}{w:bZ}{A:bS}{E:ak->ar->Prop}{s:ar}{κ:eY}{O:KeyOrd}{key:Nat->O.α}{ks vs:List ak}
noncomputable def b6H(key:Nat->O.α)(ks:List ak)(x:bQ):O.α:=
 open Classical in if h : ∃ i, i<ks.length /\ ks.getD i bw = x.1 then key h.choose else key 0
def a5Q(cong:∀i j,i<ks.length->j<ks.length->ks.getD i bw=ks.getD j bw->key i=key j){x:bQ}(hi:i<ks.length)(e:ks.getD i bw=x.1):b6H key ks x=key i:=by
 have h:∃i,i<ks.length/\ks.getD i bw=x.1:=⟨i,hi,e⟩;unfold b6H;rw[dif_pos h];exact cong _ _ h.choose_spec.1 hi (h.choose_spec.2.trans e.symm)
def b6I(hl:ks.length=vs.length)(jk:∀(i j:Nat) (C:Bool->ar->Prop),i<vs.length->j<vs.length->C (O.blt (key i) (key j)) s->aX (aV prog w) A (keyLt' κ (ks.getD i bw) (ks.getD j bw)) C (λ_ _=>False) s)
  (cong:∀i j,i<ks.length->j<ks.length->ks.getD i bw=ks.getD j bw->key i=key j) :
  aX (aV prog w) A ((sortRuns').run (dq.mk' κ (ks.toArray.zip vs.toArray) #[] 7 xn)) (λr s'=>s'=s/\∃p:Array Nat,a_ r.2=p.map (mq (ks.toArray.zip vs.toArray))/\fP r.2=xn/\AllN vs.length p/\b1G key p vs.length) E s:=by
 have zs:(ks.toArray.zip vs.toArray).size=vs.length:=by simp[hl]
 have it:∀i,i<vs.length->mq (ks.toArray.zip vs.toArray) i=(ks.getD i bw,vs.getD i bw):=λi hi=>PySem.W.kat_item hl i
 have hz:∀i (h:i<(ks.toArray.zip vs.toArray).size),(ks.toArray.zip vs.toArray)[i]=(ks.getD i bw,vs.getD i bw):=λi h=>by
  rw[<-it i (by lia)];unfold mq;rw[Aq,dif_pos h];rfl
 have H:CmpS prog w A s κ O (b6H key ks) (λx=>∃i,i<vs.length/\x.1=ks.getD i bw):=⟨λx y ⟨i,hi,ei⟩ ⟨j,hj,ej⟩ C hC=>by
  rw[a5Q cong (by lia) ei.symm,a5Q cong (by lia) ej.symm]at hC;rw[ei,ej];exact jk i j C hi hj hC⟩
 show sU (aV prog w) A E s sortRuns' (λ_ cL=>∃p:Array Nat,a_ cL=p.map (mq (ks.toArray.zip vs.toArray))/\fP cL=xn/\AllN vs.length p/\b1G key p vs.length) (dq.mk' κ (ks.toArray.zip vs.toArray) #[] 7 xn);refine a4s (st:=dq.mk' κ (ks.toArray.zip vs.toArray) #[] 7 xn) H (key 0) (a0:=ks.toArray.zip vs.toArray) ⟨rfl,rfl,Gx _,λi h=>⟨i,?_,?_⟩,rfl,cG _⟩ λcL pm fl up=>?_
 ·have h':i<(ks.toArray.zip vs.toArray).size:=h;lia
 ·show (ks.toArray.zip vs.toArray)[i].1=_;rw[hz]
 have el:(ks.toArray.zip vs.toArray).toList=(az vs.length).map (mq (ks.toArray.zip vs.toArray)):=by
  apply iT
  ·rw[aP,ai,bF];exact zs
  intro i h1 h2;rw[bW,dF,ny,hz,it i (by rw[aP]at h1;lia)]
 obtain⟨p,pp,pe⟩:=b1I (fD.mp pm) _ el;have hp:AllN vs.length p.toArray:=pp;have ea:a_ cL=p.toArray.map (mq (ks.toArray.zip vs.toArray)):=by
  apply Array.toList_inj.mp;rw[Array.toList_map,pe]
 refine⟨p.toArray,ea,fl,hp,λi j gO hj=>?_⟩;have gT:p.length=vs.length:=by have:=pp.length_eq;rw[bF]at this;exact this
 have sz:(a_ cL).size=vs.length:=by rw[ea,Array.size_map,be];exact gT
 have hk:∀t (ht:t<(a_ cL).size),b6H key ks (a_ cL)[t]=kyP key p.toArray t:=λt ht=>by
  have yO:t<p.length:=by lia
  have hm:p[t]<vs.length:=bT.mp (pp.mem_iff.mp (dm yO));have e1:(a_ cL)[t]=mq (ks.toArray.zip vs.toArray) p[t]:=by
   have:(a_ cL)[t]?=(p.toArray.map (mq (ks.toArray.zip vs.toArray)))[t]?:=by rw[ea]
   rw[bA ht,Array.getElem?_map]at this;simp only[List.getElem?_toArray,ab yO,pN,nX]at this;exact this
  rw[e1,it _ hm,a5Q cong (i:=p[t]) (by lia) rfl];unfold kyP;simp[Aq,yO]
 have:=up i j (by lia) gO;rw[hk i (by lia),hk j (by lia)]at this;exact this
end
end VS
namespace VS
open PySem PySem.Spec L2
open PyProof.Rows (KeyOrd SortKind SortSt keyKind' keyLt' seqObj listItems_at listUpdate_at seqEpoch_at arrOf failedOf get?_update_seq list_sort_plain general' tuples' size_push' slot_list_sort entry_list_sort args_list_sort kind_sorted plain_sorted entry_sorted args_sorted1)
open PySem.W (kas_sort kas_ask kas_item kat_run kat_snds)
section
variable {prog:bB}{w:bZ}{A:bS}{E:ak->ar->Prop}{sh:ar}{vs:List ak}{κ:eY}{O:KeyOrd}{key:Nat->O.α}
def Kept(h h':cS):Prop:=∀b o,h.get? b=cz o->h'.get? b=cz o
theorem Kept.push(x:Kept h h')(o:fY):Kept h (h'.push o):=λb u e=>aG _ (x b u e)
def Kept.upd(x:Kept h h')(f:fY->fY)(ha:h.objs.size<=a):Kept h (h'.update a f):=λb u e=>by
 rw[dG _ _ (jF (bo (aU e) ha))];exact x b u e
structure Sortable (prog:bB) (w:bZ) (A:bS) (h0:cS) (ks:List ak) (κ:eY) (O:KeyOrd) (key:Nat->O.α):Prop where
 kind:2<=ks.length->∀(s:ar) (E:ak->ar->Prop) (Q:eY->ar->Prop),Kept h0 s.heap->Q κ s->aX (aV prog w) A (keyKind' ks.toArray) Q E s
 lt:∀(s:ar) (i j:Nat) (C:Bool->ar->Prop),Kept h0 s.heap->i<ks.length->j<ks.length->C (O.blt (key i) (key j)) s->aX (aV prog w) A (keyLt' κ (ks.getD i bw) (ks.getD j bw)) C (λ_ _=>False) s
 cong:∀i j,i<ks.length->j<ks.length->ks.getD i bw=ks.getD j bw->key i=key j
def Gives(prog:bB)(w:bZ)(A:bS)(sh:ar)(r:ak)(vs:List ak):Prop:=
 ∀(E:ak->ar->Prop) (Q:List ak->ar->Prop),(∀(h':cS) (tk:Nat),Kept sh.heap h'->sh.heap.objs.size<=h'.objs.size->Q vs {sh with heap:=h',toks:=tk})->aX (aV prog w) A (collect r) Q E sh
def a8v(hh:A.handled=xn)(h0:(d==dr)=yp)(hm:sh.heap.RawDict d rows ep)(hz:rows.size<=aZ):Gives prog w A sh (.ref d) (rows.toList.map (·.key)):=λE Q q=>by
 have hd:d<sh.heap.objs.size:=let⟨_,hu,_⟩:=hm;aU hu
 have fin:∀(h':cS) (tk:Nat) (acc:Array ak) (c:Nat),(∀b o,b≠sh.heap.objs.size->(sh.heap.push {cls:=.type "list",data:=.seq ([]:List ak).toArray}).get? b=cz o->h'.get? b=cz o)->
   h'.get? sh.heap.objs.size=cz {cls:=.type "list",dict:=xn,data:=.seq acc c,slots:=#[]}->qR (λi v=>∃e,rows[i]?=cz e/\v=e.key) acc rows.size->Q acc.toList {sh with heap:=h',toks:=tk}:=by
  intro h' tk acc c hk hS oJ;have e:acc.toList=rows.toList.map (·.key):=by
   refine kj λi=>?_
   rw[aQ,bR,bR];by_cases c:i<rows.size
   ·obtain⟨x,hx⟩:∃x,acc[i]?=cz x:=⟨_,bA (by rw[oJ.1];exact c)⟩;obtain⟨y,h1,h2⟩:=oJ.2 i x hx;rw[hx,h1,h2];rfl
   ·rw[gd (by rw[oJ.1];lia),gd (by lia)];rfl
  rw[e];exact q h' tk (λb o x=>hk b o (bP (aU x)) (aG _ x)) (eN (aU hS))
 unfold collect;refine ae (wpAny_runValue (mT PyProof.Rows.entry_proto_collect' ?_));rw[jW PySem.F.plain_proto_collect _];show aX _ A.in1 (newList [] >>= λl=>again (.builtin "list.__iadd__" ⟨[l,.ref d],[]⟩)) _ _ sh;refine ae (iV (aE ⟨ig sP _,mT PyProof.Rows.entry_list_iadd' ?_⟩));rw[jW sP _];show aX _ A.in1 (cU (.ref sh.heap.objs.size) (.ref d) (.ref sh.heap.objs.size)) _ _ _;refine dU (W.kdl_extend (A:=A) (s:={sh with heap:=sh.heap.push {cls:=.type "list",data:=.seq ([]:List ak).toArray}})
  (R:=λ(g:Result) (s':ar)=>∃(h':cS) (tk:Nat) (acc:Array ak) (c:Nat),g=.ok (.ret (.ref sh.heap.objs.size))/\s'={sh with heap:=h',toks:=tk}/\
   h'.get? sh.heap.objs.size=cz {cls:=.type "list",dict:=xn,data:=.seq acc c,slots:=#[]}/\Q acc.toList {sh with heap:=h',toks:=tk})
  (b6E (ep:=ep) h0) hh (hm.at λo e=>aG _ e) sh.heap.objs.size (jF hd) (jF hd) (.ref sh.heap.objs.size) 0 (bh _ rfl)
  (λh' tk acc c hk hS oJ=>⟨h',tk,acc,c,rfl,rfl,hS,fin h' tk acc c hk hS oJ⟩) hz) (λg s' x=>?_) λe s' x=>?_
 ·cases g with
  |done f=>
   obtain⟨h',tk,acc,c,e,rfl,hS,qq⟩:=x;cases e
   show aX _ A (load sh.heap.objs.size >>= _) _ _ _;exact ae (wpAny_load hS (aE qq))
  |again c₁=>
   refine⟨x.1,iX x.2 λg s₂ y=>?_⟩;obtain⟨h',tk,acc,c,rfl,rfl,hS,qq⟩:=y;show aX _ A (load sh.heap.objs.size >>= _) _ _ _;exact ae (wpAny_load hS (aE qq))
 ·obtain⟨_,_,_,_,e',_⟩:=x;cases e'
end
end VS
namespace VS
open PySem PySem.Spec L2
open PyProof.Rows (KeyOrd SortKind keyKind' keyLt' tuples' oneType' IntsAre oneLt')
open PySem.W (KatLex KatTups BoolBack)
def q9:List Int->List Int->Bool
 |[],[]=>yp
 |[],_::_=>yn
 |_::_,[]=>yp
 |a::x,b::y=>if a=b then q9 x y else decide (a<b)
theorem X5:∀a,q9 a a=yp
 |[]=>rfl
 |a::x=>by rw[q9,aB rfl];exact X5 x
theorem N4:∀a b,q9 a b=yp->q9 b a=yp->a=b
 |[],[],_,_=>rfl
 |[],_::_,h,_=>by cases h
 |_::_,[],_,h=>by cases h
 |a::x,b::y,h1,h2=>by
  rw[q9]at h1 h2;by_cases c:a=b
  ·subst c;rw[aB rfl]at h1 h2;rw[N4 x y h1 h2]
  ·rw[aJ c]at h1;rw[aJ (λz=>c z.symm)]at h2;have:=jJ h1;have:=jJ h2;lia
theorem T8:∀a b c,q9 a b=yn->q9 b c=yn->q9 a c=yn
 |[],[],_,h,_=>by cases h
 |[],_::_,[],_,h=>by cases h
 |[],_::_,_::_,_,_=>rfl
 |_::_,[],_,h,_=>by cases h
 |_::_,_::_,[],_,h=>by cases h
 |a::x,b::y,c::z,h1,h2=>by
  rw[q9]at h1 h2 ⊢;by_cases e1:a=b
  ·subst e1;rw[aB rfl]at h1;by_cases e2:a=c
   ·rw[aB e2]at h2 ⊢;exact T8 x y z h1 h2
   ·rw[aJ e2]at h2 ⊢;exact h2
  ·rw[aJ e1]at h1;have q1:=bz h1;by_cases e2:b=c
   ·subst e2;rw[aJ e1];exact h1
   ·rw[aJ e2]at h2;have q2:=bz h2;rw[aJ (by lia)];exact aW (by lia)
def b1J(h:q9 a b=yn):q9 b a=yp:=by
 cases c:q9 b a with
 |false=>rfl
 |true=>rw[<-X5 a,T8 _ _ _ h c]
def b3R(a b c:List Int)(h:q9 a c=yn):q9 a b=yn\/q9 b c=yn:=by
 cases h1:q9 a b with
 |true=>exact .inl rfl
 |false=>
  refine .inr ?_;cases h2:q9 b a with
  |true=>exact T8 _ _ _ h2 h
  |false=>rw[<-N4 a b h1 h2];exact h
def OI:KeyOrd:=⟨List Int,q9,X5,T8,b3R,N4⟩
def a2h(h:IntsAre vs ns):vs.length=ns.length:=by
 induction h with
 |nil=>rfl
 |cons _ _ _ ih=>rw[aS,aS,ih]
end VS
namespace VS
open PySem PySem.Spec L2
open PyProof.Rows (IntsAre seqObj)
def b1K(n:List Int):List (List Int)->List (List Int)
 |[]=>[n]
 |m::ms=>if q9 m n then m::b1K n ms else n::m::ms
def a5R:List (List Int)->List (List Int)
 |[]=>[]
 |n::ns=>b1K n (a5R ns)
def leL(a b:List Int):Prop:=q9 b a=yp
def b1L(h1:leL a b)(h2:leL b c):leL a c:=PyProof.Rows.KeyOrd.kle_trans (O:=OI) h1 h2
theorem a1G(n:List Int):∀ms,(b1K n ms).Perm (n::ms)
 |[]=>ir _
 |m::ms=>by
  unfold b1K;by_cases c:q9 m n=yn
  ·rw[aB c];exact ((a1G n ms).cons m).trans (List.Perm.swap n m ms)
  ·rw[aJ c]
theorem Z9:∀ns,(a5R ns).Perm ns
 |[]=>ir _
 |n::ns=>(a1G n (a5R ns)).trans ((Z9 ns).cons n)
theorem a2i(n:List Int):∀ms:List (List Int),ms.Pairwise leL->(b1K n ms).Pairwise leL
 |[],_=>dJ ..
 |m::ms,h=>by
  unfold b1K;obtain⟨h1,h2⟩:=gc.mp h;by_cases c:q9 m n=yn
  ·rw[aB c];refine gc.mpr ⟨λx hx=>?_,a2i n ms h2⟩;rcases aD.mp ((a1G n ms).mem_iff.mp hx) with z|z
   ·rw[z];exact b1J c
   ·exact h1 x z
  ·rw[aJ c];have Bd:leL n m:=by simpa[leL]using c
   refine gc.mpr ⟨λx hx=>?_,h⟩;rcases aD.mp hx with z|z
   ·rw[z];exact Bd
   ·exact b1L Bd (h1 x z)
theorem X6:∀ns:List (List Int),(a5R ns).Pairwise leL
 |[]=>kl
 |n::ns=>a2i n _ (X6 ns)
def b1M{a b:List (List Int)}(hp:a.Perm b)(ha:a.Pairwise leL):a=a5R b:=
 List.Perm.eq_of_pairwise (λx y _ _ h1 h2=>N4 _ _ h2 h1) ha (X6 b) (hp.trans (Z9 b).symm)
def kD(kt:Bool)(ns:List Int):D:=if kt then .tuple (ns.map .int) else .int (ns.headD 0)
def b9O(kt:Bool):D->Option (List Int)
 |.int n=>if kt then xn else cz [n]
 |.tuple ds=>if kt then intsOf ds else xn
 |_=>xn
def a9R(kt:Bool):List D->Option (List (List Int))
 |[]=>cz []
 |d::ds=>(b9O kt d).bind λns=>(a9R kt ds).bind λr=>cz (ns::r)
def b1N(h:b9O kt d=cz ns):d=kD kt ns/\(kt=yp->ns.length=1):=by
 cases d with
 |int n=>
  cases kt with
  |true=>cases h
  |false=>cases h;exact⟨rfl,λ_=>rfl⟩
 |tuple ds=>
  cases kt with
  |false=>cases h
  |true=>
   have h':intsOf ds=cz ns:=h;cases C7 h'
   exact⟨rfl,λz=>by cases z⟩
 |_=>cases h
theorem a3D:∀{ds:List D} {nss:List (List Int)},a9R kt ds=cz nss->ds=nss.map (kD kt)/\(kt=yp->∀ns∈nss,ns.length=1)
 |[],nss,h=>by cases h;exact⟨rfl,λ_ _ z=>(nomatch z)⟩
 |d::ds,nss,h=>by
  obtain⟨ns,h1,h⟩:=bnd (show (b9O kt d).bind _=cz nss from h);obtain⟨r,h2,h3⟩:=bnd h;cases h3
  obtain⟨e1,e2⟩:=b1N h1;obtain⟨e3,e4⟩:=a3D h2;refine⟨by rw[ax,<-e1,<-e3],λz x hx=>?_⟩;rcases aD.mp hx with y|y
  ·rw[y];exact e2 z
  ·exact e4 z x y
section
variable {X:Cx}{pins:List (av×fY)}{U:L2.St}{H:Hp}{s:ar}
def b6J{key:Nat->List Int}{p:Array Nat}(hp:AllN N p)(hu:b1G (O:=OI) key p N):(p.toList.map key).Pairwise leL:=by
 rw[rl];intro i j hi hj gO;rw[ai,aP,hp.size]at hi hj;have z:=hu i j (eN gO) hj;have e:∀k (hk:k<N),kyP (O:=OI) key p k=(p.toList.map key)[k]'(by rw[ai,aP,hp.size];exact hk):=λk hk=>by
  have tP:k<p.size:=by rw[hp.size];exact hk
  simp only[kyP,dF,bW]
  congr 1;simp[Aq,tP]
 rw[e i hi,e j hj]at z;exact z
def a4t:∀{l:List α} {p:List Nat},p.Perm (az l.length)->(p.map λi=>l.getD i d).Perm l:=by
 intro l p h;refine (h.map _).trans (List.Perm.of_eq ?_);refine kj λi=>?_
 rw[aQ];by_cases c:i<l.length
 ·rw[fT c,pN,ab c,af,ab c];rfl
 ·rw[iJ (by simpa using c),iJ (by simpa using c)];rfl
end
section
variable {X:Cx}{M:List Md}{a:Expr}{fa:EvE}{ca:Cat}{pos p:fW}
def b9P:D->Option (List D)
 |.dict kvs=>cz (kvs.map (·.1))
 |_=>xn
theorem a2j:∀{kvs:List (D×D)} {es:List (D×V×V)},DenKV K H es kvs->DenAll K H (es.map (·.2.1)) (kvs.map (·.1))
 |[],es,h=>by
  simp only[DenKV]at h;subst h;exact denAll_nil
 | (k,d)::r,es,h=>by
  simp only[DenKV]at h;obtain⟨e,q,rfl,h2,h3,h4,h5⟩:=h;exact denAll_cons h3 (a2j h5)
end
end VS
namespace VS
open PySem PySem.Spec L2
section
variable {K:ag}{H:Hp}{F:List av}{kt:Bool}{u:Ty}
def b3S(wD:a∈F)(o:HO):Same (cut H F) (cut (upd H a o) F):=λb o' hb=>by
 obtain⟨n1,n2⟩:=m8 hb;exact i9 n1 (by rw[c7 (show b≠a from λz=>n1 (z▸wD))];exact n2)
end
def b9Q:∀{us:List α},us.length=1->∃a,us=[a]
 |[a],_=>⟨a,rfl⟩
def b9R:∀{us:List α},us.length=2->∃a b,us=[a,b]
 |[a,b],_=>⟨a,b,rfl⟩
def c1L:∀{us:List α},us.length=3->∃a b c,us=[a,b,c]
 |[a,b,c],_=>⟨a,b,c,rfl⟩
def c3g:∀{us:List α},us.length=4->∃a b c d,us=[a,b,c,d]
 |[a,b,c,d],_=>⟨a,b,c,d,rfl⟩
def c3h:∀{us:List α},us.length=5->∃a b c d e,us=[a,b,c,d,e]
 |[a,b,c,d,e],_=>⟨a,b,c,d,e,rfl⟩
def c3i:∀{us:List α},us.length=6->∃a b c d e f,us=[a,b,c,d,e,f]
 |[a,b,c,d,e,f],_=>⟨a,b,c,d,e,f,rfl⟩
end VS
namespace VS
open PySem PySem.Spec L2
open PyProof.Rows (KeyOrd SortKind SortSt keyKind' keyLt' seqObj listItems_at listUpdate_at seqEpoch_at arrOf failedOf get?_update_seq general' size_push' ksk_end ksk_tail)
open PySem.W (kas_sort kas_ask kas_item kat_run kat_snds)
section
variable {prog:bB}{w:bZ}{A:bS}{E:ak->ar->Prop}{sh:ar}{vs ks:List ak}{κ:eY}{O:KeyOrd}{key:Nat->O.α}{R:cS->Prop}
structure SortableR (prog:bB) (w:bZ) (A:bS) (R:cS->Prop) (ks:List ak) (κ:eY) (O:KeyOrd) (key:Nat->O.α):Prop where
 kind:2<=ks.length->∀(s:ar) (E:ak->ar->Prop) (Q:eY->ar->Prop),R s.heap->Q κ s->aX (aV prog w) A (keyKind' ks.toArray) Q E s
 lt:∀(s:ar) (i j:Nat) (C:Bool->ar->Prop),R s.heap->i<ks.length->j<ks.length->C (O.blt (key i) (key j)) s->aX (aV prog w) A (keyLt' κ (ks.getD i bw) (ks.getD j bw)) C (λ_ _=>False) s
 cong:∀h,R h->∀i j,i<ks.length->j<ks.length->ks.getD i bw=ks.getD j bw->key i=key j
def a2k{a kS:av}{e e1:Nat}{P:Ff->ar->Prop}{st:dq}{out:List ak}(yZ:out.length<=aZ)(lx:ks.length<=aZ)(zJ:(a_ st).map (·.2)=out.toArray)(hf:fP st=xn)(ho:sh.heap.get? a=cz (iz "list" #[] e1))(hk:sh.heap.get? kS=cz (iz "list" ks.toArray e))(iU:kS≠a)
  (q:P (.done (.ret .none)) {sh with heap:=(sh.heap.update kS (bX λ_=>(#[]:Array ak))).update a (bX λ_=>out.toArray)}) :
  aX (aV prog w) A (ksk_tail a yp e1 (.ref kS) st) P E sh:=by
 have s1:=fC sh.heap kS (bX λ_=>(#[]:Array ak));have AG:(sh.heap.update kS (bX λ_=>(#[]:Array ak))).get? a=cz (iz "list" #[] e1):=(s1.2 a iU.symm).trans ho;unfold ksk_tail
 try dsimp only
 rw[zJ];refine ae (s_ hk rfl ?_ (by rw[be];exact lx) (cG _));refine ae (so ?_);refine ae (seqEpoch_at AG rfl ?_);simp only[br,dh];refine ae (s_ AG rfl ?_ (cG _) (by rw[be];exact nZ yZ));rw[hf];simp only[bne_self_eq_false,br,dh];exact aE q
def a8w{a kS:av}{e e1:Nat}{P:Ff->ar->Prop}(hl:ks.length=vs.length)(S:SortableR prog w A R ks κ O key)(hR:R sh.heap)(ho:sh.heap.get? a=cz (iz "list" #[] e1))(hk:sh.heap.get? kS=cz (iz "list" ks.toArray e))(iU:kS≠a)(rS:vs.length<65536)
  (q:∀p:Array Nat,AllN vs.length p->b1G key p vs.length->P (.done (.ret .none)) {sh with heap:=(sh.heap.update kS (bX λ_=>(#[]:Array ak))).update a (bX λ_=>(p.toList.map λi=>vs.getD i bw).toArray)}) :
  aX (aV prog w) A (ksk_end a yp vs.toArray e1 (.ref kS) ks.toArray) P E sh:=by
 have lx:ks.length<=aZ:=by rw[cX];lia
 have yZ:∀p:Array Nat,AllN vs.length p->(p.toList.map λi=>vs.getD i bw).length<=aZ:=λp hp=>by rw[ai,hp.length_eq,bF,cX];lia
 unfold ksk_end
 try dsimp only
 simp only[br,dh];by_cases h2:vs.toArray.size<2
 ·rw[aB h2,aB h2];refine ae (aE ?_);rw[StateT.run_pure];refine ae (aE ?_);have pI:vs.length<2:=by simpa using h2
  have e0:(List.toArray (az vs.length)).toList.map (λi=>vs.getD i bw)=vs:=by
   match vs,pI with
   |[],_=>rfl
   |[v],_=>rfl
   |_::_::_,h=>simp at h;lia
  have ez:(a_ (dq.mk' general' (ks.toArray.zip vs.toArray) #[] 7 xn)).map (·.2)=vs.toArray:=by
   show (ks.toArray.zip vs.toArray).map (·.2)=vs.toArray;simp[List.map_snd_zip,hl]
  dsimp only
  have q0:=q (List.toArray (az vs.length)) (ir _) λi j a b=>by
   obtain rfl:i=j:=by lia
   exact eG _
  rw[e0]at q0;exact a2k (out:=vs) (by rw[cX];lia) lx ez rfl ho hk iU q0
 ·rw[aJ h2,aJ h2];have FR:¬ vs.length<2:=by simpa using h2
  have pI:2<=vs.length:=by lia
  refine ae (S.kind (by lia) sh _ _ hR ?_);refine ae (dU (b6I (key:=key) hl (λi j C hi hj hC=>S.lt sh i j C hR (by lia) (by lia) hC) (S.cong _ hR)) ?_ λ_ _ e=>e);rintro⟨⟨⟩,cL⟩ s' ⟨rfl,p,zJ,hf,hp,hu⟩
  dsimp only
  exact a2k (yZ p hp) lx (kat_snds hl zJ) hf ho hk iU (q p hp hu)
end
end VS
namespace VS
open PySem PySem.Spec L2
open PyProof.Rows (seqObj listItems_at listUpdate_at seqEpoch_at ksk_end ksk_rest ksk_fold)
section
variable {X:Cx}{pins:List (av×fY)}{U:L2.St}{k:Nat}{f:av}{fd:dS}{ps:List bE}{sp:Sp}
def b6K(F:FnOk X.prog X.w X.K X.mg X.base CX0 k f fd ps sp)(hr:Room k X.A.in1.in1)(hb:Binds X.K fd ps [])(I:Inv X pins U H s)(r:Vals vs us)(h:sp vs H Q E0) :
  aX (aV X.prog X.w) X.A.in1.in1 (call (.ref f) us) (EP X pins U Q) (λ_ _=>False) s:=by
 have hl:us.length=ps.length:=by rw[<-r.length];exact F.len _ _ _ _ h
 have xH:=hb s us I.kIn (by rw[bb];exact hl);rw[bb]at xH;refine uZ (iX (F.run X.A.in1.in1 X.stack s H ⟨us,[]⟩ us vs Q E0 hr I.env0.in1.in1 xH r h) λr s' hq=>?_);cases r with
 |error e=>exact hq
 |ok fl=>
  cases fl with
  |ret u=>exact I.after hq
  |next=>exact dC hq
  |brk=>exact dC hq
  |cont=>exact dC hq
def SameX(a:av)(H H':Hp):Prop:=∀b o,b≠a->H b=cz o->H' b=cz o
def SameX.refl(a:av)(H:Hp):SameX a H H:=λ_ _ _ h=>h
theorem SameX.cut(h:SameX a H H'):Same (cut H [a]) (cut H' [a]):=λb o hb=>by
 obtain⟨n1,n2⟩:=m8 hb;exact i9 n1 (h b o (λz=>n1 (by rw[z];exact aq.mpr rfl)) n2)
def b6L{a kS:av}{e1:Nat}{xs:List V}{us:List ak}{kd:Nat->D}{P:Ff->ar->Prop}{E:ak->ar->Prop}{s:ar}{H:Hp}(I:Inv X pins U H s)(rv:Vals xs us)(hk:H kS=cz (.lst []))(rS:us.length<65536)
  (turn:∀(i:Nat) (x:V) (u:ak),xs[i]?=cz x->us[i]?=cz u->∀(s':ar) (H':Hp),Inv X pins U H' s'->SameX kS H H'->(∃kvs,H' kS=cz (.lst kvs))->aX (aV X.prog X.w) X.A.in1.in1 (call (.ref f) [u]) (EP X pins U λv H2=>Same H' H2/\Den X.K (cut H2 [kS]) v (kd i)) (λ_ _=>False) s')
  (fin:∀(s':ar) (H':Hp) (kvs:List V) (ks:List ak) (n:Nat),Inv X pins U H' s'->SameX kS H H'->H' kS=cz (.lst kvs)->Vals kvs ks->kvs.length=us.length->(∀i v,kvs[i]?=cz v->Den X.K (cut H' [kS]) v (kd i))->s'.heap.get? kS=cz (iz "list" ks.toArray n)->
   aX (aV X.prog X.w) X.A.in1.in1 (ksk_end a yp us.toArray e1 (.ref kS) ks.toArray) P E s') :
  aX (aV X.prog X.w) X.A.in1.in1 (ksk_rest a (.ref f) yp us.toArray e1 (.ref kS)) P E s:=by
 unfold ksk_rest;refine ae (iA ?_)
 first
  |rw[List.forIn_toArray]
  | (rw[<-jU];simp only[xW])
  |rw[<-jU]
 refine ae (ksk_fold (λj s'=>∃(Hj:Hp) (kvs:List V),Inv X pins U Hj s'/\SameX kS H Hj/\Hj kS=cz (.lst kvs)/\kvs.length=j/\∀i v,kvs[i]?=cz v->Den X.K (cut Hj [kS]) v (kd i)) us 0 s
  ⟨H,[],I,SameX.refl _ _,hk,rfl,λi v h=>by simp at h⟩ ?step ?done)
 case step=>
  rintro j u s' hu ⟨Hj,kvs,I',sx,lx,hlen,kT⟩;simp only[ip]at hlen ⊢;have hj:j<us.length:=(aM.mp hu).1;obtain⟨x,hx⟩:∃x,xs[j]?=cz x:=⟨_,ab (by rw[rv.length];exact hj)⟩;refine ae (oS (dU (turn j x u hx hu s' Hj I' sx ⟨kvs,lx⟩) (λkv va he=>?_) λ_ _ hF=>hF.elim));obtain⟨v,H2,I2,r2,same,den⟩:=he
  try dsimp only
  have vV:H2 kS=cz (.lst kvs):=same _ _ lx;obtain⟨z,its,n,r,hl,e⟩:=I2.lstM vV;refine ae (s_ e rfl ?_ (by rw[be,cX];lia) (cF (uh (Array.size_push ..)) (by rw[be,cX];lia)));have I3:=I2.lset (t':=va.toks) (f:=(·.push kv)) (its':=its++[kv]) (ys:=kvs++[v]) vV e (by simp) (r.append (.cons r2 .nil)) (by rw[aA,cx,cX];lia);have c2:Same (cut H2 [kS]) (cut (upd H2 kS (.lst (kvs++[v]))) [kS]):=b3S (aq.mpr rfl) _;refine aE ⟨rfl,upd H2 kS (.lst (kvs++[v])),kvs++[v],I3,λb o hb ho=>?_,f8,by rw[aA,hlen];rfl,λi w hw=>?_⟩
  ·rw[c7 hb];exact same _ _ (sx b o hb ho)
  ·rcases dH i kvs.length with c|c
   ·rw[dw c]at hw;exact (kT i w hw).up (((SameX.cut λb o _ h=>same _ _ h)).trans c2)
   ·rw[cu c]at hw;have mh:i-kvs.length=0:=by
     have:=(aM.mp hw).1;simp at this;lia
    rw[mh]at hw;have e9:v=w:=by simpa using hw
    have e8:i=j:=by lia
    subst e9;subst e8;exact den.up c2
 case done=>
  rintro s' ⟨Hj,kvs,I',sx,lx,hlen,kT⟩;rw[ip]at hlen;obtain⟨z,its,n,r,hl,e⟩:=I'.lstM lx
  try dsimp only
  refine ae (listItems_at e rfl ?_);exact fin s' Hj kvs its n I' sx lx r hlen kT e
end
end VS
namespace VS
open PySem PySem.Spec L2
section
variable {X:Cx}{pins:List (av×fY)}{U:L2.St}{H:Hp}{s:ar}{a:av}{o:HO}
def b1O(I:Inv X pins U H s)(hn:H a=xn)(ha:X.s₀.heap.objs.size<=a)(wC:a≠X.env.locals)(lW:∀x c,X.env.cells.lookup x=cz c->c≠a)(rQ:∀p∈X.pn++pins,p.1≠a)(new:ObjOk X.prog X.w (upd H a o) s.heap a o):Inv X pins U (upd H a o) s where
 ok:=I.ok
 os:=I.os
 bare:=I.bare
 base:=⟨I.base.keep,I.base.slot,λb u q n hx=>by rw[c7 (bP (bo (aU q) ha))];exact I.base.free b u q n hx,I.base.there,
  λb xs q=>by rw[c7 (i6 (I.base.tups b xs q) hn)];exact I.base.tups b xs q,
  λb u xs q=>by rw[c7 (i6 (I.base.frzs b u xs q) hn)];exact I.base.frzs b u xs q,
  λb ps q=>by
   obtain⟨more,e⟩:=I.base.tbls b ps q;exact⟨more,by rw[c7 (i6 e hn)];exact e⟩⟩
 loc:=I.loc
 cell:=I.cell
 free:=by rw[c7 (cR wC)];exact I.free
 freeC:=λx c e=>by rw[c7 (lW x c e)];exact I.freeC x c e
 pin:=λp hp=>⟨(I.pin p hp).1,by rw[c7 (rQ p hp)];exact (I.pin p hp).2.1,(I.pin p hp).2.2⟩
 hok:=λb u e=>by
  by_cases hb:b=a
  ·subst hb;rw[f8]at e;cases e;exact new
  ·rw[c7 hb]at e;exact (I.hok b u e).stay (λc v _ q=>q) (λc q=>by rw[c7 (i6 q hn)];exact q) λc xs q=>by rw[c7 (i6 q hn)];exact q
 len:=I.len
end
end VS
namespace VS
open PySem PySem.Spec L2
open PyProof.Rows (KeyOrd SortKind seqObj listItems_at listUpdate_at seqEpoch_at ksk_tree ksk_rest ksk_end ksk_t1 ksk_s1 ksk_l1 kind_sorted plain_sorted entry_sorted slot_list_sort entry_list_sort call_function_entry_kw wpAny_call_entry_kw size_push' get?_update_seq)
section
variable {X:Cx}{pins:List (av×fY)}{U:L2.St}{f:av}{O:KeyOrd}{key:Nat->O.α}{κ:eY}{H:Hp}{s:ar}
def a8x{us:List ak}{xs:List V}{kd:Nat->D}(I:Inv X pins U H s)(hg:Gives X.prog X.w X.A.in1 s r us)(rv:Vals xs us)(rS:us.length<65536)
  (turn:∀(lg:List (av×fY)) (kS:av) (i:Nat) (x:V) (u:ak),xs[i]?=cz x->us[i]?=cz u->∀(s':ar) (H':Hp),Inv X lg U H' s'->Same H H'->H kS=xn->(∃kvs,H' kS=cz (.lst kvs))->aX (aV X.prog X.w) X.A.in1.in1 (call (.ref f) [u]) (EP X lg U λv H2=>Same H' H2/\Den X.K (cut H2 [kS]) v (kd i)) (λ_ _=>False) s')
  (srt:∀(lg:List (av×fY)) (kS:av) (s':ar) (H':Hp) (kvs:List V) (ks:List ak),Inv X lg U H' s'->Vals kvs ks->kvs.length=us.length->(∀i v,kvs[i]?=cz v->Den X.K (cut H' [kS]) v (kd i))->H' kS=cz (.lst kvs)->∃R:cS->Prop,SortableR X.prog X.w X.A.in1.in1 R ks κ O key/\R s'.heap)
  (fin:∀(p:Array Nat) (z:av) (H':Hp),AllN us.length p->b1G key p us.length->Same H H'->H z=xn->H' z=xn->Q (.ref z) (upd H' z (.lst (p.toList.map λi=>xs.getD i .non)))) :
  aX (aV X.prog X.w) X.A (call (.builtin "sorted") [r] [(cH "key",.ref f)]) (EP X pins U Q) X.xe s:=by
 have om:xs.length=us.length:=rv.length;have uE:us.length<=aZ:=by rw[cX];lia
 refine call_function_entry_kw kind_sorted plain_sorted entry_sorted (ksk_s1 _ _) ?_;unfold Builtin.«sorted»;refine ae (m:=checkCount "sorted" 1 1 _) (aE ?_);refine ae (hg _ _ λh1 tk k1 z1=>?_);refine ae (wpAny_newList ?_ uE);have oL:(h1.push (iz "list" us.toArray 0)).get? h1.objs.size=cz (iz "list" us.toArray 0):=bh _ rfl;refine ae (cY (wpAny_call_entry_kw slot_list_sort ⟨_,oL,rfl⟩ entry_list_sort ?body (ksk_l1 _ _)))
 case body=>
  show aX (aV X.prog X.w) X.A.in1.in1 (Builtin.«list.sort» ⟨[.ref h1.objs.size],[(cH "key",.ref f)]⟩) _ _ _;rw[ksk_t1];unfold ksk_tree;obtain⟨a,ea⟩:∃a,a=h1.objs.size:=⟨_,rfl⟩;rw[<-ea]at oL ⊢;have tu:s.heap.objs.size<=a:=by rw[ea];exact z1
  obtain⟨c1,o1⟩:∃c1,((h1.push (iz "list" us.toArray 0)).update a (bX λ_=>(#[]:Array ak))).get? a=cz (iz "list" #[] c1):=⟨_,get?_update_seq oL λ_=>#[]⟩;refine ae (listItems_at oL rfl (ae (s_ oL rfl ?_ (by rw[be];exact uE) (cG _))));refine ae (seqEpoch_at o1 rfl (ae (wpAny_newTuple ?_ uE)));refine ae (wpAny_newList ?_ (cG _));refine cY ?_;obtain⟨jL,z_⟩:∃jL:cS,jL=((h1.push (iz "list" us.toArray 0)).update a (bX λ_=>(#[]:Array ak))).push (iz "tuple" us.toArray 0):=⟨_,rfl⟩;have CI:∀b u,s.heap.get? b=cz u->jL.get? b=cz u:=λb u hb=>by
   rw[z_];exact (((show Kept s.heap h1 from k1).push _).upd _ tu).push _ b u hb
  have o2:jL.get? a=cz (iz "list" #[] c1):=by rw[z_];exact aG _ o1
  have wJ:H a=xn:=I.hok.fresh tu;have wC:a≠X.env.locals:=jF (bo I.lt tu);have I2:Inv X pins U H {s with heap:=jL,toks:=tk}:=I.kept CI;have Fm:Inv X ((a,iz "list" #[] c1)::pins) U H {s with heap:=jL,toks:=tk}:=I2.pins_of λp hp=>by
   rcases aD.mp hp with rfl|hp
   ·exact⟨o2,wJ,wC,I.nofs tu,λv=>by intro z;cases z⟩
   ·exact I2.pin p (ah _ hp)
  have I3:=Fm.lnew (t':=tk) (its:=[]) (ys:=[]) .nil (cG _);have vT:H jL.objs.size=xn:=I2.fresh;show aX (aV X.prog X.w) X.A.in1.in1 (ksk_rest a (.ref f) yp us.toArray c1 (.ref (cS.objs (cS.push ((h1.push (iz "list" us.toArray 0)).update a (bX λ_=>(#[]:Array ak))) (iz "tuple" us.toArray 0))).size)) _ _ _;rw[<-z_];refine b6L (X:=X) (a:=a) (f:=f) (kd:=kd) (kS:=jL.objs.size) (H:=upd H jL.objs.size (.lst [])) I3 rv f8 rS (λi x u hx hu s' H' I' sx hk=>turn _ jL.objs.size i x u hx hu s' H' I' (λb o hb=>sx b o (i6 hb vT) (by rw[c7 (i6 hb vT)];exact hb)) vT hk) λs' H' kvs ks n I' sx lx rk hlen kT ek=>?_
  have pa:=I'.pin (a,iz "list" #[] c1) (ah _ aL);have iU:jL.objs.size≠a:=jF (aU o2);obtain⟨R,S,hR⟩:=srt _ jL.objs.size s' H' kvs ks I' rk hlen kT lx;refine a8w (sh:=s') (by rw[<-rk.length];exact hlen) S hR pa.1 ek iU rS λp hp hu=>⟨_,rfl,?_⟩
  have J1:=I'.lset (t':=s'.toks) (f:=λ_=>(#[]:Array ak)) (its':=[]) (ys:=[]) lx ek rfl .nil (cG _);have J2:Inv X pins U (upd H' jL.objs.size (.lst [])) {s' with heap:=s'.heap.update jL.objs.size (bX λ_=>(#[]:Array ak)),toks:=s'.toks}:=J1.pins_of λp hp=>J1.pin p (by rcases ao.mp (ah X.pn hp) with z|z;exact aj _ z;exact ah _ (aw _ z))
  have xx:upd H' jL.objs.size (.lst []) a=xn:=by rw[c7 iU.symm];exact pa.2.1
  have A_:X.s₀.heap.objs.size<=a:=cF I.sz tu;have lW:∀x c,X.env.cells.lookup x=cz c->c≠a:=λx c e z=>by
   obtain⟨v,hv⟩:=I.cell x c e;obtain⟨ob,za,_⟩:=hv;have this:=aU za;rw[z]at this;exact dR _ (bo this tu)
  have rQ:∀p∈X.pn++pins,p.1≠a:=λp hp z=>by
   have this:=aU (I.pin p hp).1;rw[z]at this;exact dR _ (bo this tu)
  have oa:(s'.heap.update jL.objs.size (bX λ_=>(#[]:Array ak))).get? a=cz (iz "list" #[] c1):=((fC s'.heap jL.objs.size _).2 a iU.symm).trans pa.1;have J3:=J2.turned (it:=a) (t':=s'.toks) (h':=(s'.heap.update jL.objs.size (bX λ_=>(#[]:Array ak))).update a (bX λ_=>(p.toList.map λi=>us.getD i bw).toArray)) (λb o hb ho=>((fC (s'.heap.update jL.objs.size (bX λ_=>(#[]:Array ak))) a _).2 b hb).trans ho) xx wC (.inr A_) lW rQ;obtain⟨c3,o3⟩:∃c3,((s'.heap.update jL.objs.size (bX λ_=>(#[]:Array ak))).update a (bX λ_=>(p.toList.map λi=>us.getD i bw).toArray)).get? a=cz (iz "list" (p.toList.map λi=>us.getD i bw).toArray c3):=⟨_,get?_update_seq oa λ_=>_⟩;have gT:p.toList.length=us.length:=by rw[hp.length_eq,bF]
  have hv:Vals (p.toList.map λi=>xs.getD i .non) (p.toList.map λi=>us.getD i bw):=by
   refine a2I (by rw[ai,ai]) λi x u g1 g2=>?_
   rw[aQ]at g1 g2;obtain⟨j,j1,rfl⟩:=eu.mp g1;rw[j1]at g2;cases g2
   have hj:j<us.length:=bT.mp (hp.mem_iff.mp (bt j1));have vW:xs[j]?=cz (xs.getD j .non):=by rw[ab (by lia),af,ab (by lia)];rfl
   obtain⟨u,hu,ru⟩:=rv.get vW;show RelV (xs.getD j .non) (us.getD j bw);rw[af (l:=us),hu];exact ru
  have J4:=b1O (a:=a) (o:=.lst (p.toList.map λi=>xs.getD i .non)) J3 xx A_ wC lW rQ ⟨by rw[ai,gT];exact uE,_,c3,hv,o3⟩;refine aE ⟨.ref a,rfl,.ref a,_,J4,rfl,fin p a _ hp hu (λb o hb=>?_) wJ xx⟩;have zI:=i6 hb vT;rw[c7 zI];exact sx b o zI (by rw[c7 zI];exact hb)
end
end VS
namespace VS
open PySem PySem.Spec L2
open PySem.W (KatLex KatTups BoolBack)
open PyProof.Rows (KeyOrd SortKind keyKind' keyLt' tuples')
def kdP(ns:List Int):D:=.tuple [.int ns.length,.tuple (ns.map .int)]
def sqD(l:Bool)(ns:List Int):D:=if l then .list (ns.map .int) else .tuple (ns.map .int)
def kdQ(l:Bool)(ns:List Int):D:=.tuple [.int ns.length,sqD l ns]
def b6M(l:Bool)(ns:List Int):D->Bool
 |.list ds=>l&&decide (intsOf ds=cz ns)
 |.tuple ds=>!l&&decide (intsOf ds=cz ns)
 |_=>yp
def b9S(l:Bool)(ns:List Int):Option D->Bool
 |some (.tuple [.int n,d])=>decide (n=ns.length)&&b6M l ns d
 |_=>yp
def b1P(h:b6M l ns d=yn):d=sqD l ns:=by
 cases d with
 |list ds=>
  have h':(l&&decide (intsOf ds=cz ns))=yn:=h;rw[aC]at h';rw[h'.1,C7 (bz h'.2)];rfl
 |tuple ds=>
  have h':(!l&&decide (intsOf ds=cz ns))=yn:=h;rw[aC,Bool.not_eq_true']at h';rw[h'.1,C7 (bz h'.2)];rfl
 |_=>cases h
def b1Q:∀{o:Option D},b9S l ns o=yn->o=cz (kdQ l ns)
 |some (.tuple [.int n,d]),h=>by
  have h':(decide (n=ns.length)&&b6M l ns d)=yn:=h;rw[aC]at h';rw[bz h'.1,b1P h'.2];rfl
def b6N(l:Bool)(ns:List Int):b9S l ns (cz (kdQ l ns))=yn:=by
 show (decide ((ns.length:Int)=ns.length)&&b6M l ns (sqD l ns))=yn;rw[aW rfl,mU];cases l
 ·show (!false&&decide (intsOf (ns.map .int)=cz ns))=yn;rw[N1,aW rfl];rfl
 ·show (yn&&decide (intsOf (ns.map .int)=cz ns))=yn;rw[N1,aW rfl];rfl
noncomputable def b1R(l:Bool)(m:List D->Option D)(nss:List (List Int)):Bool:=decide (nss.length<65536)&&nss.all λns=>b9S l ns (m [sqD l ns])
def b1S(h:b1R l m nss=yn):nss.length<65536/\∀ns∈nss,m [sqD l ns]=cz (kdQ l ns):=by
 unfold b1R at h;rw[aC,eK]at h;exact⟨bz h.1,λns hn=>b1Q (h.2 ns hn)⟩
def b6O{nss:List (List Int)}(h:nss.length<65536)(hm:∀ns∈nss,m [sqD l ns]=cz (kdQ l ns)):b1R l m nss=yn:=by
 unfold b1R;rw[aC,eK];exact⟨aW h,λns hn=>by rw[hm ns hn];exact b6N l ns⟩
theorem eqI:∀xs ys:List Int,bN (xs.map aK) (ys.map aK)=decide (xs=ys)
 |[],[]=>by simp[bN]
 |[],_::_=>by simp[bN]
 |_::_,[]=>by simp[bN]
 |x::xs,y::ys=>by
  have:aF (.int x) (.int y)=decide (x=y):=by
   show (x==y)=decide (x=y);exact gr x y
  simp only[ax,bN,this,eqI xs ys,gi];by_cases h1:x=y<;>by_cases h2:xs=ys<;>simp[h1,h2]
theorem b3T:∀ns:List Int,aY (ns.map aK)=yn
 |[]=>by simp only[cZ,aY]
 |n::ns=>by simp only[ax,aY,cE,b3T ns,er]
theorem b9T:∀ns:List Int,cW (ns.map aK)=0
 |[]=>by simp only[cZ,cW]
 |n::ns=>by simp only[ax,cW,dN,b9T ns];rfl
def a5S(r:Reads h v (kdQ l ns) as) :
  ∃(a:av) (o:fY) (vs:Array ak) (m:Nat) (t:Tok) (u:ak) (bs:List av),v=.ref a/\h.get? a=cz o/\o.cls=.type "tuple"/\o.data=.seq vs m/\vs.toList=[.int ns.length t,u]/\Reads h u (sqD l ns) bs:=by
 unfold kdQ at r;cases r with
 |@tuple a o vs m xs as ho hc hd rs=>
  generalize hv:vs.toList=l at rs;cases rs with
  |cons r1 rs=>
   cases rs with
   |cons r2 rs=>
    cases rs with
    |nil=>
     cases r1 with
     |int i t=>exact⟨a,o,vs,m,t,_,_,rfl,ho,hc,hd,hv,r2⟩
section
variable {prog:bB}{w:bZ}{A:bS}
theorem b8a:∀{ks:List ak} {nss:List (List Int)},ks.length=nss.length->(∀i,i<ks.length->∃as,Reads h (ks.getD i bw) (kdQ l (nss.getD i [])) as)->∃fs,KatTups h ks fs/\fs.length=ks.length/\∀v∈fs,∃n t,v=g_ n t
 |[],_,_,_=>⟨[],trivial,rfl,λ_ h=>(nomatch h)⟩
 |v::vs,[],hl,_=>by simp at hl
 |v::vs,ns::nss,hl,hv=>by
  obtain⟨fs,h1,h2,h3⟩:=b8a (ks:=vs) (nss:=nss) (by simpa using hl) λi hi=>by have:=hv (i+1) (by simpa using hi);simpa using this
  obtain⟨as,r⟩:=hv 0 (Nat.zero_lt_succ _);obtain⟨a,o,xs,m,t,u,bs,e,ho,hc,hd,hx,_⟩:=a5S (show Reads h v (kdQ l ns) as from r);have rG:xs[0]?=cz (g_ ns.length t):=by rw[<-bR,hx];rfl
  refine⟨g_ ns.length t::fs,⟨⟨a,o,xs,m,e,ho,hc,hd,rG⟩,h1⟩,by rw[aS,aS,h2],λy hy=>?_⟩;rcases aD.mp hy with z|z
  ·rw[z];exact⟨_,_,rfl⟩
  ·exact h3 y z
def b6P(h:kdQ l ms=kdQ l ns):ns=ms:=by
 have ii:∀{a b:List Int},a.map aK=b.map aK->b=a:=λ{a b} e=>((List.map_inj_right λx y e=>by cases e;rfl).mp e).symm
 unfold kdQ at h;have h2:=(si (si (cI.inj h)).2).1;cases l with
 |true=>exact ii (b_.inj h2)
 |false=>exact ii (cI.inj h2)
theorem a3E:∀a b,q9 a b=HT.lexLt a b
 |[],[]=>rfl
 |[],_::_=>rfl
 |_::_,[]=>rfl
 |_::x,_::y=>by rw[q9,HT.a2T,a3E x y]
theorem T9:∀{ns:List Int} {vs:List ak} {as:List av},iZ h vs (ns.map aK) as->l_ vs ns
 |[],_,_,r=>by cases r;exact .nil
 |n::ns,_,_,r=>by cases r with|cons r1 r2=>cases r1;exact .cons _ _ (T9 r2)
def a9S{h:cS}{v:ak}{ns:List Int}{as:List av}(r:Reads h v (sqD yp ns) as):∃a its,v=.ref a/\PyProof.Rows.IsTup h a its/\l_ its.toList ns:=by
 replace r:Reads h v (.tuple (ns.map .int)) as:=r
 cases r with
 |@tuple a o vs m xs as ho hc hd rs=>exact⟨a,vs,rfl,⟨o,ho,hc,m,hd⟩,T9 rs⟩
def a4u{ks:List ak}{nss:List (List Int)}(hl:ks.length=nss.length)(hu:A.units+8<dQ) :
  SortableR prog w A (λh=>∀i,i<ks.length->∃as,Reads h (ks.getD i bw) (kdQ yp (nss.getD i [])) as) ks (tuples' yn) OI (λi=>(((nss.getD i []).length:Nat):Int)::nss.getD i []) where
 kind:=λh2 s E Q hR q=>by
  obtain⟨fs,h1,mS,h3⟩:=b8a hl hR;refine W.kat_kind (T:=fK "int") h1 (by lia) (λv CU=>?_) rfl q;obtain⟨n,t,rfl⟩:=h3 v CU;exact λA Q E s _ q=>aE q
 cong:=λh hR i j hi hj e=>by
  obtain⟨as,ri⟩:=hR i hi;obtain⟨bs,rj⟩:=hR j hj;rw[<-e]at rj;have z:=(PyProof.Rows.reads_det (λ_ _ e _=>e) ri rj).1;have:nss.getD i []=nss.getD j []:=b6P z;exact dE (λns:List Int=>(((ns.length:Nat):Int)::ns:List Int)) this
 lt:=λs i j C hR hi hj q=>by
  obtain⟨as,ri⟩:=hR i hi;obtain⟨bs,rj⟩:=hR j hj;obtain⟨a,o,xs,k,t,u,us,e1,ho,_,hd,hx,ru⟩:=a5S ri;obtain⟨a',o',ys,k',t',u',Fs,e2,pH,_,jX,hy,yi⟩:=a5S rj;rw[e1,e2];refine W.kat_lt ho hd pH jX ?_;have q':C (q9 ((((nss.getD i []).length:Nat):Int)::nss.getD i []) ((((nss.getD j []).length:Nat):Int)::nss.getD j [])) s:=q;generalize nss.getD i []=ns at q' hx ru;generalize nss.getD j []=ms at q' hy yi;rw[hx,hy,dB,dB,nu];have hz:decide (xs.size<ys.size)=yp:=by
   have z1:=dE d_ hx;have z2:=dE d_ hy;rw[aP]at z1 z2;simp only[aS,gh]at z1 z2;exact bg (by lia)
  rw[hz];rw[q9]at q';refine W.kat_cons (lQ ?_);have lay:∀ns:List Int,(sqD yp ns).canLay0=yn:=λns=>by simp only[sqD,dh,br,cE];exact b3T ns
  have Gj:(sqD yp ns).depth<=1:=by simp only[sqD,dh,br,dN,b9T];lia
  by_cases c:((ns.length:Nat):Int)=((ms.length:Nat):Int)
  ·rw[aB c]at q';rw[show (((ns.length:Nat):Int)==((ms.length:Nat):Int))=yn by simp[c]];refine W.kat_yes (W.kat_cons (lY _ _ A s _ _ _ _ ru yi (lay ns) (lay ms) (by have:=ly (sqD yp ns).depth (sqD yp ms).depth;lia) _ _ _ _ ?_));have ee:aF (sqD yp ns) (sqD yp ms)=decide (ns=ms):=by simp only[sqD,dh,br,aF];exact eqI ns ms
   rw[ee];by_cases c2:ns=ms
   ·rw[aW c2];refine W.kat_yes (W.kat_nil ?_);rw[c2,X5]at q';exact q'
   ·rw[bg c2];refine W.kat_no ?_;refine W.kat_one _ _ ?_;obtain⟨_,_,z1,p1,i1⟩:=a9S ru;obtain⟨_,_,z2,p2,i2⟩:=a9S yi;rw[z1,z2];exact HT.a7Q p1 p2 i1 i2 (by lia) (by rw[<-a3E];exact q')
  ·rw[aJ c]at q';rw[show (((ns.length:Nat):Int)==((ms.length:Nat):Int))=yp by simp[c]];exact W.kat_no (PyProof.Rows.oneLt_int q')
end
end VS
namespace VS
open PySem PySem.Spec L2
def r8(ns:List Int):List Int:=((ns.length:Nat):Int)::ns
def N5(nss:List (List Int)):List (List Int):=(a5R (nss.map r8)).map mj
def b3U{nss:List (List Int)}(hp:AllN nss.length p)(hu:b1G (O:=OI) (λi=>(((nss.getD i []).length:Nat):Int)::nss.getD i []) p nss.length):p.toList.map (λi=>nss.getD i [])=N5 nss:=by
 unfold N5;have e:p.toList.map (λi=>(((nss.getD i []).length:Nat):Int)::nss.getD i [])=a5R (nss.map r8):=by
  refine b1M ?_ (b6J hp hu);have h:=(a4t (d:=([]:List Int)) (l:=nss) hp).map r8;rw[bC]at h;exact h
 rw[<-e,bC];rfl
section
variable {X:Cx}{pins:List (av×fY)}{U:L2.St}{H:Hp}{s:ar}{k:Nat}{f:av}{fd:dS}{ps:List bE}{m:List D->Option D}
def b1T{nss:List (List Int)}(F:FnOk X.prog X.w X.K X.mg X.base CX0 k f fd ps (spD X.K 1 m .i))(hr:Room k X.A.in1.in1)(hb:Binds X.K fd ps [])(I:Inv X pins U H s)(hg:Gives X.prog X.w X.A.in1 s r us)(rv:Vals xs us)(hd:DenAll X.K H xs (nss.map λns=>.tuple (ns.map .int)))
  (rS:nss.length<65536) (hm:∀ns∈nss,m [.tuple (ns.map .int)]=cz (kdP ns)) (q:∀z out H',Same H H'->H z=xn->H' z=xn->DenAll X.K H' out ((N5 nss).map λns=>.tuple (ns.map .int))->Q (.ref z) (upd H' z (.lst out))) :
  aX (aV X.prog X.w) X.A (call (.builtin "sorted") [r] [(cH "key",.ref f)]) (EP X pins U Q) X.xe s:=by
 have om:xs.length=nss.length:=by rw[hd.length,ai]
 have AS:us.length=nss.length:=by rw[<-rv.length];exact om
 have qE:∀i x,xs[i]?=cz x->i<nss.length/\Den X.K H x (.tuple ((nss.getD i []).map .int)):=λi x hx=>by
  have hi:i<nss.length:=by rw[<-om];exact (aM.mp hx).1
  have e1:(nss.map λns=>cI (ns.map .int))[i]?=cz (.tuple ((nss.getD i []).map .int)):=by rw[aQ,ab hi,af,ab hi];rfl
  obtain⟨v,hv,dv⟩:=hd.get e1;rw[hx]at hv;cases hv
  exact⟨hi,dv⟩
 have iW:∀i,i<nss.length->nss.getD i []∈nss:=λi hi=>by rw[af,ab hi];exact dm hi
 have zm:∀ns:List Int,imm (kdP ns)=yn:=λns=>by unfold kdP;simp only[imm,c9,fQ,mU];exact b9N ns
 have vS:∀ns:List Int,(kdP ns).canLay0=yn:=λns=>by unfold kdP;simp only[cE,aY,fQ,mU];exact b3T ns
 refine a8x (f:=f) (O:=OI) (κ:=PyProof.Rows.tuples' yn) (key:=λi=>(((nss.getD i []).length:Nat):Int)::nss.getD i []) (kd:=λi=>kdP (nss.getD i [])) I hg rv (by lia) (λlg kS i x u hx hu s' H' I' same _ hk=>?_) (λlg kS s' H' kvs ks I' rk hlen kT lx=>?_) λp z H' hp hu same hz qf=>?_
 ·obtain⟨hi,dx⟩:=qE i x hx;obtain⟨u',sv,ru⟩:=rv.get hx;rw[hu]at sv;cases sv
  refine b6K F hr hb I' (.cons ru .nil) ⟨[.tuple ((nss.getD i []).map .int)],kdP (nss.getD i []),rfl,denAll_cons (dx.up same) denAll_nil,hm _ (iW i hi),λv H2 fp e o nd fr=>⟨e,(o.den _).imm_out (F:=[kS]) (λb hb=>by obtain⟨kvs,hk⟩:=hk;rw[aq.mp hb];exact⟨⟨.lst kvs,trivial⟩,e _ _ hk⟩) _ (zm _)⟩⟩
 ·have DI:ks.length=nss.length:=by rw[<-rk.length,hlen];exact AS
  refine⟨_,a4u (nss:=nss) DI (by have:=hr.un;lia),λi hi=>?_⟩;obtain⟨v,hv⟩:∃v,kvs[i]?=cz v:=⟨_,ab (by rw[rk.length];exact hi)⟩;obtain⟨u,hu,ru⟩:=rk.get hv;rw[af,hu];exact Den.reads I' _ (vS _) ((kT i v hv).up j9) ru
 ·rw[AS]at hp hu;refine q z _ H' same hz qf ?_;rw[<-b3U hp hu,bC];have:∀l:List Nat,(∀j∈l,j<nss.length)->DenAll X.K H' (l.map λi=>xs.getD i .non) (l.map ((λns=>cI (ns.map .int)) ∘ λi=>nss.getD i [])):=by
   intro l
   induction l with
   |nil=>intro _;exact denAll_nil
   |cons j l ih=>
    intro hj;have rO:=hj j aL;have vW:xs[j]?=cz (xs.getD j .non):=by rw[ab (by lia),af,ab (by lia)];rfl
    exact denAll_cons ((qE j _ vW).2.up same) (ih λk hk=>hj k (aw _ hk))
  exact this _ λj hj=>bT.mp (hp.mem_iff.mp hj)
def a8y{nss:List (List Int)}(hc:X.calm=yn)(F:FnOk X.prog X.w X.K X.mg X.base CX0 k f fd ps (spD X.K 1 m .i))(hr:Room k X.A.in1.in1)(hb:Binds X.K fd ps [])(I:Inv X pins U H s)(hH:H p=cz (g9 p es))(hd:DenAll X.K H (es.map (·.2.1)) (nss.map λns=>.tuple (ns.map .int)))
  (rS:nss.length<65536) (hm:∀ns∈nss,m [.tuple (ns.map .int)]=cz (kdP ns)) (q:∀z out H',Same H H'->H z=xn->H' z=xn->DenAll X.K H' out ((N5 nss).map λns=>.tuple (ns.map .int))->Q (.ref z) (upd H' z (.lst out))) :
  aX (aV X.prog X.w) X.A (call (.builtin "sorted") [.ref p] [(cH "key",.ref f)]) (EP X pins U Q) X.xe s:=by
 obtain⟨h0,hl,hn,o,ents,ep,g1,g2,g3,g4⟩:=y7 I hH;refine b1T F hr hb I (a8v (by simpa using I.ok.hd hc) h0 ⟨o,g1,g2,g3⟩ (by have z:=gF g4;have z2:ents.toList.length=ents.size:=aP;lia)) ?_ hd rS hm q;have:∀{es:List (D×V×V)} {l:List hJ},fR V2 es l->Vals (es.map (·.2.1)) (l.map (·.key)):=by
  intro es l h
  induction h with
  |nil=>exact .nil
  |cons r _ ih=>exact .cons r.2.1 ih
 exact this g4
end
def a8z(ns:List Int):D:=.tuple (ns.map .int)
noncomputable def a0F(m:List D->Option D)(a:EvE):EvE:=λZ=>(a Z).bind λd=>(b9P d).bind λks=>(a9R yn ks).bind λnss=>if b1R yp m nss then cz (.list ((N5 nss).map a8z)) else xn
section
variable {X:Cx}{M:List Md}{a:Expr}{fa:EvE}{ca:Cat}{pos p py lE:fW}{y:bE}{k:Nat}{ps:List bE}{m:List D->Option D}{ta:TE}
noncomputable def b9U(X:Cx)(m:List D->Option D)(ta:TE):TE:=λU H Q=>a6q ta b2L U H λxs H1=>∃pd es nss,xs=[V.ref pd]/\H1 pd=cz (g9 pd es)/\DenAll X.K H1 (es.map (·.2.1)) (nss.map a8z)/\nss.length<65536/\(∀ns∈nss,m [a8z ns]=cz (kdP ns))/\∀z out H',Same H1 H'->H1 z=xn->H' z=xn->DenAll X.K H' out ((N5 nss).map a8z)->Q (.ref z) (upd H' z (.lst out))
def b3V(hc:X.calm=yn)(zd:X.mg "sorted"=xn)(W:Has X.prog X.w X.K X.mg X.base y k ps (spD X.K 1 m .i))(hr:Room (k+2) X.A)(ha:PE X a ta)(hg:Gl X "sorted":=by rfl)(v_:Gl X y:=by rfl)(wm:autoParam ((y==("__debug__":bE))=yp) ZV._auto_1)
  (he:au [a] X.env=(yp,cK a X.env)::au [] X.env:=by rfl) (qD:cM pos (au [a] X.env)=(yp,cK a X.env)::cM pos (au [] X.env):=by rfl) (eJ:(cM pos (au [a] X.env)).any (·.1)=yp:=by rfl)
  (gL:(eX pos (dD [⟨cz (cH "key"),.Name y py,lE⟩] X.env)).all (·.1.isSome)=yn:=by rfl) (zi:(eX pos (dD [⟨cz (cH "key"),.Name y py,lE⟩] X.env)).any (·.1.isNone)=yp:=by rfl)
  (lx:(eX pos (dD [⟨cz (cH "key"),.Name y py,lE⟩] X.env)).filterMap (·.1)=[cH "key"]:=by rfl) :
  PE X (.Call (.Name "sorted" p) [a] [⟨cz (cH "key"),.Name y py,lE⟩] pos) (b9U X m ta):=by
 obtain⟨f,fd,F,b,kp,Du⟩:=W.ex;intro pins s U H Q I h;refine gx (a0u I hg zd PyProof.Rows.Boot.«sorted» ?_ (by decide) (by decide));have hA:PA X [a] (a6q ta b2L):=l0 ha p9 he;have hK:PK X [⟨cz (cH "key"),.Name y py,lE⟩] (a6q (tC (.ref f)) b2L):=b5N (a9p v_ Du rfl wm) b8N;refine PyProof.Rows.callWith_kw (L2.thn (hA pos pins s U H _ I h) λus s1 ⟨xs,H1,I1,r1,pd,es,nss,e0,hH,hd,rS,hm,q⟩=>?_) qD eJ gL zi;subst e0;refine L2.thn (hK pos pins s1 U H1 (λzs H2=>zs=[.ref f]/\H2=H1) I1 ⟨rfl,rfl⟩) λws s2 ⟨zs,H2,I2,r2,ez,eH⟩=>?_
 subst ez;subst eH;rw[lx];obtain⟨u,rfl,ru⟩:=r1.one;obtain⟨w,rfl,vb⟩:=r2.one;cases (show u=bM pd from ru)
 cases (show w=bM f from vb)
 exact a8y hc F hr.in1.in1 b I2 hH hd rS hm q
def a7e(hc:X.calm=yn)(zd:X.mg "sorted"=xn)(W:Has X.prog X.w X.K X.mg X.base y k ps (spD X.K 1 m .i))(hr:Room (k+2) X.A)(ha:PX X M a fa ca)(hg:Gl X "sorted":=by rfl)(v_:Gl X y:=by rfl)(wm:autoParam ((y==("__debug__":bE))=yp) ZV._auto_1)
  (he:au [a] X.env=(yp,cK a X.env)::au [] X.env:=by rfl) (qD:cM pos (au [a] X.env)=(yp,cK a X.env)::cM pos (au [] X.env):=by rfl) (eJ:(cM pos (au [a] X.env)).any (·.1)=yp:=by rfl)
  (gL:(eX pos (dD [⟨cz (cH "key"),.Name y py,lE⟩] X.env)).all (·.1.isSome)=yn:=by rfl) (zi:(eX pos (dD [⟨cz (cH "key"),.Name y py,lE⟩] X.env)).any (·.1.isNone)=yp:=by rfl)
  (lx:(eX pos (dD [⟨cz (cH "key"),.Name y py,lE⟩] X.env)).filterMap (·.1)=[cH "key"]:=by rfl) :
  PX X M (.Call (.Name "sorted" p) [a] [⟨cz (cH "key"),.Name y py,lE⟩] pos) (a0F m fa) (.new (.l .i)):=by
 obtain⟨ta,pa,qa⟩:=ha.out;refine .mk ⟨_,b3V hc zd W hr pa hg v_ wm he qD eJ gL zi lx,λZ U H P F d Q S hf q=>?_⟩;obtain⟨x,h1,g1⟩:=bnd hf;obtain⟨ks,h2,g2⟩:=bnd g1;obtain⟨nss,h3,g3⟩:=bnd g2;obtain⟨e1,_⟩:=a3D h3;by_cases c:b1R yp m nss=yn
 ·rw[aB c]at g3;have c:nss.length<65536/\∀ns∈nss,m [a8z ns]=cz (kdP ns):=b1S c;cases g3
  cases x with
  |dict kvs=>
   cases h2
   refine qa Z U H P F _ _ S h1 λv H1 w1 r1=>?_
   obtain⟨pp,es,rfl,k1,k2⟩:=r1.den.dict_inv;refine⟨pp,es,nss,rfl,k1,?_,c.1,c.2,λz out H' same hz qf ho=>q _ _ ((w1.trans same).trans (k8 qf _)) ?_⟩
   ·have hk:=a2j k2;rw[e1]at hk;exact hk
   ·have hi:∀l:List (List Int),c9 (l.map a8z)=yn:=λl=>by
     induction l with
     |nil=>simp only[cZ,c9]
     |cons ns l ih=>simp only[ax,c9,ih,fQ,a8z,imm];exact b9N ns
    exact Y9 ho (hi _) (w1.trans same) qf (S.lst' (w1.trans same))
  |_=>cases h2
 ·rw[aJ c]at g3;cases g3
end
section
variable {X:Cx}{M:List Md}{a b:Expr}{rest:List Expr}{fa fb:EvE}{u:Ty}{pos:fW}{ta tb:TE}
def b9V(ha:PE X a ta)(hb:PE X (.BoolOp .Or (b::rest) pos) tb):PE X (.BoolOp .Or (a::b::rest) pos) (λU H Q=>ta U H λx H1=>∃k,b5K X.K x H1 k/\if k=yn then Q x H1 else tb U H1 Q):=by
 intro pins s U H Q I h;refine PyProof.Rows.BoolOp_or (L2.thn (ha pins s U H _ I h) λv s1 ⟨x,H1,I1,r1,k,hk,q1⟩=>?_);refine L2.thn (b2J pins s1 U H1 x v (λc H2=>c=k/\H2=H1) I1 r1 ⟨k,hk,rfl,rfl⟩) λc s2 ⟨H2,I2,ec,eH⟩=>?_
 subst ec;subst eH;cases c with
 |true=>exact⟨x,H2,I2,r1,q1⟩
 |false=>exact hb pins s2 U H2 Q I2 q1
noncomputable def b6Q(fa fb:EvE):EvE:=λZ=>(fa Z).bind λd=>(tr d).bind λk=>if k then cz d else fb Z
def b9W(ha:PX X M a fa (.new u))(hb:PX X M (.BoolOp .Or (b::rest) pos) fb (.new u)):PX X M (.BoolOp .Or (a::b::rest) pos) (b6Q fa fb) (.new u):=by
 obtain⟨ta,pa,qa⟩:=ha.out;obtain⟨tb,pb,qb⟩:=hb.out;refine .mk ⟨_,b9V pa pb,λZ U H P F d Q S hf q=>?_⟩;obtain⟨x,h1,hf⟩:=bnd hf;obtain⟨k,h2,hf⟩:=bnd hf;refine qa Z U H P F _ _ S h1 λv H1 e1 r1=>⟨k,b3a r1.den h2,?_⟩
 cases k with
 |true=>
  have qB:d=x:=(aH hf).symm;subst qB;exact a5x (q _ H1 e1 r1)
 |false=>exact a7T (qb Z U H1 P F d Q (S.grow e1) hf λw H2 e2 r2=>q w H2 (e1.trans e2) (r2.early e1))
end
def b6R(F:List av)(H H2:Hp):Hp:=λa=>if a∈F then H a else H2 a
def a5T(h:a∈F):b6R F H H2 a=H a:=aB h
def J8(h:a∉F):b6R F H H2 a=H2 a:=aJ h
section
variable {P:bB}{w:bZ}{K:ag}{mg:bE->Option ak}{base:cS}{k:Nat}{f:av}{fd:dS}{ps:List bE}{sp:Sp}{H:Hp}{h:cS}{F:List av}
def N6(n:H a=xn):cut H F a=xn:=by
 by_cases q:a∈F
 ·exact a1r q
 ·rw[a0P q];exact n
end
def Junk(H:Hp)(C:List av):Prop:=∀a∈C,∀u,H a=cz u->∃o,u=.frz o (.own a)
section
variable {K:ag}{H H':Hp}{C F:List av}
theorem Junk.cut(h:Junk H C):Junk (cut H F) C:=λa ha u e=>h a ha u (m8 e).2
def Junk.out(h:Junk H C)(e:H a=cz u)(n:∀o,u≠.frz o (.own a)):a∉C:=λz=>by
 obtain⟨o,q⟩:=h a z u e;exact n o q
def b3W(h:Junk H C)(q:SqX K H a xs):SqX K (VS.cut H C) a xs:=by
 rcases q with (q|⟨o,q⟩)|q
 ·exact .inl (.inl (i9 (h.out q λo z=>(nomatch z)) q))
 ·exact .inl (.inr ⟨o,i9 (h.out q λo z=>by cases z) q⟩)
 ·exact .inr q
def b3X(h:Junk H C)(q:SqT K H a xs):SqT K (VS.cut H C) a xs:=by
 rcases q with (q|⟨o,q⟩)|q
 ·exact .inl (.inl (i9 (h.out q λo z=>(nomatch z)) q))
 ·exact .inl (.inr ⟨o,i9 (h.out q λo z=>by cases z) q⟩)
 ·exact .inr q
def a3F(h:Junk H C)(q:H a=cz (g9 a es)):VS.cut H C a=cz (g9 a es):=
 i9 (h.out q λo z=>by unfold g9 at z;cases z) q
mutual
theorem Den.junk(h:Junk H C):∀(d:bj) {v:V},Den K H v d->Den K (VS.cut H C) v d
 |.none,_,q=>by simpa only [Den]using q
 |.bool _,_,q=>by simpa only [Den]using q
 |.int _,_,q=>by simpa only [Den]using q
 |.str _,_,q=>by simpa only [Den]using q
 |.list ds,_,q=>by
  obtain⟨a,xs,rfl,h1,h2⟩:=q.list_inv;exact den_list (b3W h h1) (DenAll.junk h ds h2)
 |.tuple ds,_,q=>by
  obtain⟨a,xs,rfl,h1,h2⟩:=q.tup_inv;exact den_tup (b3X h h1) (DenAll.junk h ds h2)
 |.dict kvs,_,q=>by
  obtain⟨a,es,rfl,h1,h2⟩:=q.dict_inv;simp only[Den];exact⟨a,es,rfl,a3F h h1,DenKV.junk h kvs h2⟩
theorem DenAll.junk(h:Junk H C):∀(ds:List bj) {xs:List V},DenAll K H xs ds->DenAll K (VS.cut H C) xs ds
 |[],_,q=>by simpa only [DenAll]using q
 |d::ds,_,q=>by
  obtain⟨v,r,rfl,h1,h2⟩:=q.cons_inv;exact denAll_cons (Den.junk h d h1) (DenAll.junk h ds h2)
theorem DenKV.junk(h:Junk H C):∀(kvs:List (bj×bj)) {es:List (bj×V×V)},DenKV K H es kvs->DenKV K (VS.cut H C) es kvs
 |[],_,q=>by simpa only [DenKV]using q
 | (k,d)::r,_,q=>by
  simp only[DenKV]at q ⊢;obtain⟨x,es,h1,h2,h3,h4,h5⟩:=q;exact⟨x,es,h1,h2,Den.junk h k h3,Den.junk h d h4,DenKV.junk h r h5⟩
end
def b3Y(a:av):VS.cut (VS.cut H C) F a=VS.cut (VS.cut H F) C a:=by
 unfold VS.cut;by_cases h1:a∈F<;>by_cases h2:a∈C<;>simp[h1,h2]
def a0a(h:Junk H C)(q:Den K (VS.cut H F) v d):Den K (VS.cut (VS.cut H C) F) v d:=
 (Den.junk h.cut d q).up λa o e=>by rw[b3Y];exact e
mutual
theorem Own.junk(h:Junk H C):∀(u:Ty) {v:V} {d:bj} {fp:List av},Own K H F u v d fp->Own K (VS.cut H C) F u v d fp
 |.i,_,_,_,q=>by simp only[Own]at q ⊢;exact⟨q.1,q.2.1,a0a h q.2.2⟩
 |.f,_,_,_,q=>by simp only[Own]at q ⊢;exact⟨q.1,a0a h q.2⟩
 |.l u,_,_,_,q=>by
  simp only[Own]at q ⊢;rcases q with⟨h1,h2,q⟩|⟨a,xs,ds,fs,rfl,h1,rfl,rfl,h2⟩
  ·exact .inl ⟨h1,h2,a0a h q⟩
  ·exact .inr ⟨a,xs,ds,fs,rfl,i9 (h.out h1 λo z=>(nomatch z)) h1,rfl,rfl,h2.imp λv d f _ _ z=>Own.junk h u z⟩
 |.tp us,_,_,_,q=>by
  simp only[Own]at q ⊢;obtain⟨a,xs,ds,rfl,h1,h0,rfl,h2⟩:=q;exact⟨a,xs,ds,rfl,i9 (h.out h1 λo z=>(nomatch z)) h1,h0,rfl,OwnTs.junk h us h2⟩
 |.d kt u,_,_,_,q=>by
  simp only[Own]at q ⊢;obtain⟨a,es,ds,fs,rfl,h1,rfl,rfl,h3,h2⟩:=q;exact⟨a,es,ds,fs,rfl,a3F h h1,rfl,rfl,⟨h3.1,λx hx=>⟨(h3.2 x hx).1,a0a h (h3.2 x hx).2⟩⟩,h2.imp λv d f _ _ z=>Own.junk h u z⟩
theorem OwnTs.junk(h:Junk H C):∀(us:List Ty) {xs:List V} {ds:List bj} {fp:List av},OwnTs K H F us xs ds fp->OwnTs K (VS.cut H C) F us xs ds fp
 |[],_,_,_,q=>by simpa only [OwnTs]using q
 |u::us,_,_,_,q=>by
  simp only[OwnTs]at q ⊢;obtain⟨v,r,d,e,f,g,rfl,rfl,rfl,h1,h2⟩:=q;exact⟨v,r,d,e,f,g,rfl,rfl,rfl,Own.junk h u h1,OwnTs.junk h us h2⟩
end
def a7f(k:HOk P w H h)(j:Junk H C):HOk P w (VS.cut H C) h:=λa o e=>by
 obtain⟨na,e'⟩:=m8 e;refine (k a o e').stay (λb u _ q=>q) (λb q=>i9 (j.out q λo z=>(nomatch z)) q) λb u q=>i9 (λhb=>?_) q
 obtain⟨u,hu⟩:=u;obtain⟨ob,z⟩:=j b hb u q;subst z;have sv:b=a:=hu;exact na (sv▸hb)
def b1U(t:TabsIn K H)(j:Junk H C):TabsIn K (VS.cut H C):=λx hx p e=>by
 obtain⟨qs,t',e1,e2⟩:=t x hx p e;exact⟨qs,t',i9 (j.out e1 λo z=>(nomatch z)) e1,e2⟩
end
end VS
namespace VS
open PySem PySem.Spec L2 PyProof.Rows
noncomputable def FnV(P:bB)(w:bZ)(K:ag)(mg:bE->Option ak)(base:cS)(k n:Nat)(u:Ty)(m:List D->Option D)(H:Hp)(v:V):Prop:=
 ∃fa fo,v=.ref fa/\H fa=cz (.frz fo (.own fa))/\(∃fd,fo.data=.func fd)/\
  ∀(A:bS) (outer:List oQ) (s:ar) (us:List ak) (vs:List V) (Q:VK) (E:XK),Room k A->Env0 P w K mg base A outer s H->Vals vs us->spD K n m u vs H Q E->
   gX (aV P w) A (.call (.ref fa) ⟨us,[]⟩) (CR CX0 outer P w H s Q E) s
section
variable {X:Cx}{M:List Md}{a e0:Expr}{es:List Expr}{fa:EvE}{f:EvA}{ca:Cat}{u:Ty}{x:bE}{p pos:fW}
noncomputable def b9X(X:Cx)(i k n:Nat)(u:Ty)(m:List D->Option D)(t:TA):TE:=λU H Q=>∃v,U[i]?=cz (cz v)/\t U H λvs H1=>FnV X.prog X.w X.K X.mg X.base k n u m H1 v/\spD X.K n m u vs H1 Q E0
def b3Z(hr:Room k X.A)(ha:PA X (e0::es) t)(hN:X.N[i]?=cz x)(hv:Vis X.env.scope x)(hd:(x==("__debug__":bE))=yp)(iC:(x==("__classdict__":bE))=yp)
  (he:au (e0::es) X.env=(yp,cK e0 X.env)::au es X.env) (gT:(cM pos (au es X.env)).any (·.1)=yp):PE X (.Call (.Name x p) (e0::es) [] pos) (b9X X i k n u m t):=by
 intro pins s U H Q I ⟨v,e,h⟩;refine gx (L2.thn (y8 hN hv hd iC pins s U H (λv' H'=>v'=v/\H'=H) I ⟨v,e,rfl,rfl⟩) λu1 s1 ⟨v',H',I1,r1,z1,z2⟩=>?_);subst z1;subst z2;rw[he];refine PySem.W.callWith_of (P:=λh=>∃fa fo fd,u1=.ref fa/\h.get? fa=cz fo/\fo.data=.func fd) (by show ((yp||(cM pos (au es X.env)).any (·.1))||false)=yp;rw[gT];rfl) (λh ⟨fa,fo,fd,q1,q2,q3⟩=>?_) (og ?_)
 ·subst q1;obtain⟨cls,dict,data,slots⟩:=fo;have Cu:data=.func fd:=q3;subst Cu;exact⟨.frame,.inl rfl,(PySem.W.Looks.ld (part:=xn) q2).andThen .now⟩
 ·have qI:=ha pos pins s1 U H' _ I1 h;rw[he]at qI;refine L2.thn qI λus s2 ⟨vs,H2,I2,r2,⟨fa,fo,q1,q2,⟨fd,q3⟩,q4⟩,q5⟩=>⟨?_,?_⟩
  ·have yj:u1=.ref fa:=by rw[q1]at r1;exact r1
   exact⟨fa,fo,fd,yj,(I2.hok fa _ q2).1,q3⟩
  ·have yj:u1=.ref fa:=by rw[q1]at r1;exact r1
   subst yj;refine uZ (iX (q4 X.A X.stack s2 us vs Q E0 hr I2.env0 r2 q5) λr s' hq=>?_);cases r with
   |error e=>exact dC hq
   |ok fl=>
    cases fl with
    |ret u=>exact I2.after hq
    |next=>exact dC hq
    |brk=>exact dC hq
    |cont=>exact dC hq
def StE.getF{K:ag}{Z:List D}{U:L2.St}{H P:Hp}{F:List av}{Φ:Hp->V->Prop}(h:StE K M Z U H P F){i:Nat}(hm:M[i]?=cz (.fn Φ)):∃v,U[i]?=cz (cz v)/\∀H',Same (cut H F) H'->Φ H' v:=by
 obtain⟨G,h1,h3⟩:=h.all;obtain⟨d,o,f,pre,post,e1,e2,⟨_,v,rfl,q⟩,e4,_⟩:=h1.at_ hm;exact⟨v,e2,q⟩
def b4a(i:Nat){k n:Nat}{m:List D->Option D}(hr:Room k X.A)(h:PAX X M (e0::es) f)(hm:M[i]?=cz (.fn (FnV X.prog X.w X.K X.mg X.base k n u m)):=by rfl)(hu:u.shut=yn:=by rfl)(hl:(e0::es).length=n:=by rfl)(hfl:∀Z ds,f Z=cz ds->ds.length=(e0::es).length)
  (hN:X.N[i]?=cz x:=by rfl) (hv:autoParam (Vis X.env.scope x) ZY._auto_1) (mB:autoParam ((x==("__debug__":bE))=yp) ZV._auto_1) (iC:autoParam ((x==("__classdict__":bE))=yp) ZV._auto_1)
  (he:au (e0::es) X.env=(yp,cK e0 X.env)::au es X.env:=by rfl) (gT:(cM pos (au es X.env)).any (·.1)=yp:=by rfl) :
  PX X M (.Call (.Name x p) (e0::es) [] pos) (eCl m f) (.new u):=by
 obtain⟨t,pa,qa⟩:=h;refine .mk ⟨_,b3Z (i:=i) (n:=n) (m:=m) (u:=u) hr pa hN hv mB iC he gT,λZ U H P F d Q S hf q=>?_⟩;obtain⟨ds,h1,hf⟩:=bnd hf;obtain⟨v,yL,uD⟩:=S.getF hm;refine⟨v,yL,qa Z U H P F ds _ S h1 λvs H1 e1 r1=>⟨uD H1 (j9.trans e1),?_⟩⟩;refine⟨ds,d,by rw[r1.length,hfl Z ds h1,hl],r1,hf,λv H' fp e o nd fr=>q v H' (e1.trans e) ⟨fp,o.shut_out (λa ha=>?_) u hu,nd,λa ha=>e1.free (fr a ha)⟩⟩;rcases ao.mp ha with z|z
 ·exact o.lst u a z
 ·exact S.lst' (e1.trans e) a z
end
def spL(K:ag)(n:Nat)(Φ:(List D->Option D)->Hp->V->Prop)(m:(List D->Option D)->List D->Option D)(u:Ty):Sp:=λvs H Q _=>∃rs v gm ds d,vs=rs++[v]/\rs.length=n/\DenAll K H rs ds/\(∀H',Same H H'->Φ gm H' v)/\m gm ds=cz d/\
 ∀v H' fp,Same H H'->Own K H' fp u v d fp->fp.Nodup->(∀a∈fp,H a=xn)->Q v H'
def fnL(us:List Ty)(n:Nat)(g:(List D->Option D)->EvS):(List D->Option D)->List D->Option D:=λgm ds=>if argsOk us ds then (g gm (ds++(.none::aT n .none))).bind λo=>match o with
 |.rt d=>cz d
 |_=>xn
 else xn
theorem StAll.app{K:ag}{H:Hp}{F:List av}:∀{M1 M2:List Md} {Z1 Z2:List D} {U1 U2:L2.St} {f1 f2:List av},StAll K H F M1 Z1 U1 f1->StAll K H F M2 Z2 U2 f2->StAll K H F (M1++M2) (Z1++Z2) (U1++U2) (f1++f2)
 |[],_,_,_,_,_,_,_,h,q=>by simp only[StAll]at h;obtain⟨rfl,rfl,rfl⟩:=h;exact q
 |m::M,_,_,_,_,_,_,_,h,q=>by
  simp only[StAll]at h;obtain⟨d,Z,o,U,f,g,rfl,rfl,rfl,h1,h2⟩:=h;rw[aN];exact i7 h1 (StAll.app h2 q)
theorem a2l{K:ag}{H:Hp}{F:List av}:∀n:Nat,StAll K H F (aT n .dead) (aT n .none) (aT n xn) []
 |0=>L7
 |n+1=>i7 (f:=[]) (g:=[]) rfl (a2l n)
def b4b{P:bB}{w:bZ}{K:ag}{mg:bE->Option ak}{base:cS}{x:bE}{st:iE}{f:av}{fd:dS}{N ps:List bE}{k n:Nat}{us:List Ty}{u:Ty}{Φ:(List D->Option D)->Hp->V->Prop}{g:(List D->Option D)->EvS}{M':(List D->Option D)->List Md}(F:Fun K x x st f fd)(S:FnScope N ps (g8 st))(oE:us.length+1=ps.length)(hn:N.length=ps.length+n)
  (hb:∀(gm:List D->Option D) (gz:ak) (A:bS) (outer:List oQ) (s:ar) (H:Hp) (E:XK),Room k (A.deeper (jv x (g8 st) s.heap.objs.size f gz))->PSsX (a0M CX0 P w K mg base N x (g8 st) f gz A outer s H E).nox u [] (us.map .own++(.fn (Φ gm)::aT n .dead)) (v7 st) (g gm) (M' gm)) :
  FnOk P w K mg base CX0 (k+1) f fd ps (spL K us.length Φ (fnL us n g) u):=by
 refine F.ok S (λvs H Q E h=>?_) (λgz A outer s H vs Q E hr h=>?_)
 ·obtain⟨rs,v,gm,ds,d,rfl,hl,_⟩:=h;rw[aA,hl];exact oE
 obtain⟨rs,v,gm,ds,d,rfl,hl,hd,hΦ,hm,q⟩:=h;obtain⟨t,p,r⟩:=(hb gm gz A outer s H E hr).out;refine⟨t,p,?_⟩;unfold fnL at hm;by_cases ha:argsOk us ds=yn
 ·rw[aB ha]at hm;obtain⟨o,h1,h2⟩:=bnd hm;cases o with
  |rt d'=>
   have mS:cz d'=cz d:=h2;cases mS
   have e:L2.start N (rs++[v])=rs.map cz++(cz v::aT n xn):=by
    unfold L2.start;rw[show N.length-(rs++[v]).length=n by rw[aA,hl];show N.length-(us.length+1)=n;lia];simp
   rw[e];have h0:=T5 (K:=K) (H:=H) ha hd 0;simp only[gN,bb]at h0;have qo:=h0.app (i7 (K:=K) (H:=H) (F:=[]) (m:=.fn (Φ gm)) (d:=iG) (o:=cz v) (f:=[]) ⟨rfl,v,rfl,λH' e'=>hΦ H' (by rw[K6]at e';exact e')⟩ (a2l n));refine r _ _ _ H H [] (.rt d) ⟨⟨_,qo,bD,λa ha=>(nomatch ha)⟩,λa ha=>(nomatch ha),by rw[K6];exact Same.refl H⟩ h1 ?_;exact λv H' fp o nd fr e=>q v H' fp e o nd fr
  |_=>cases h2
 ·rw[aJ ha]at hm;cases hm
section
variable {X:Cx}{M:List Md}{e0:Expr}{es:List Expr}{f:EvA}{u:Ty}{x y:bE}{p pv pos:fW}
def b6S:∀(Z:List D) ds,c6 Z=cz ds->ds.length=0:=λZ ds h=>by cases h;rfl
def b4c(h:∀Z ds,fr Z=cz ds->ds.length=n):∀Z ds,a7 fa fr Z=cz ds->ds.length=n+1:=λZ ds q=>by
 obtain⟨x,h1,q⟩:=bnd q;obtain⟨xs,h2,q⟩:=bnd q;cases q
 rw[aS,h Z xs h2]
noncomputable def PAL(X:Cx)(M:List Md)(es:List Expr)(f:EvA)(Ψ:Hp->V->Prop):Prop:=
 ∃t,PA X es t/\∀(Z:List D) (U:L2.St) (H P:Hp) (F:List av) (ds:List D) (Q:List V->Hp->Prop),StE X.K M Z U H P F->f Z=cz ds->
  (∀vs v H',Same H H'->DenAll X.K H' vs ds->Ψ H' v->Q (vs++[v]) H')->t U H Q
def b4d(ha:PX X M a fa ca)(hr:PAL X M es fr Ψ)(hs:au (a::es) X.env=(yp,cK a X.env)::au es X.env:=by rfl):PAL X M (a::es) (a7 fa fr) Ψ:=by
 obtain⟨ta,pa,qa⟩:=ha.out;obtain⟨tr,pr,qr⟩:=hr;refine⟨_,l0 pa pr hs,λZ U H P F ds Q S hf q=>?_⟩;obtain⟨x,h1,hf⟩:=bnd hf;obtain⟨xs,h2,hf⟩:=bnd hf;cases hf
 exact qa Z U H P F _ _ S h1 λv H1 e1 r1=>qr Z U H1 P F _ _ (S.grow e1) h2 λvs w H2 e2 r2 hw=>q (v::vs) w H2 (e1.trans e2) (denAll_cons (r1.den.up e2) r2) hw
end
def a7g:∀(l r:List ak),kH l->kH r->kH (l++r):=by
 intro l
 fun_induction kH l with
 |case1=>intro r _ h;exact h
 |case2 a t b u c rest ih=>intro r h1 h2;simp only[bp,kH];exact ih r h1 h2
 |case3=>intro r h;exact h.elim
def b1V:∀(l r:List ak),kH l->lX pos (l++r)=cz cv->lX pos l=cz cv\/lX pos r=cz cv:=by
 intro l
 fun_induction kH l with
 |case1=>intro r _ h;exact .inr h
 |case2 a t b u c rest ih=>
  intro r h1 h2;simp only[bp,lX]at h2 ⊢
  split at h2
  ·rename_i hc
   rw[aB hc];exact .inl h2
  ·rename_i hc
   rw[aJ hc];exact ih r h1 h2
 |case3=>intro r h;exact h.elim
def LamO(q:bE)(params:oy)(body:Expr)(scope:gC)(clos:List (bE×av))(H:Hp)(fa:av):Prop:=
 ∃pm c' mC oc vs t b,H fa=cz (.frz (eV "<lambda>" q params body scope clos pm c' mC) (.own fa))/\H c'=cz (.frz oc (.own b))/\oc.data=.fields vs/\vs[1]?=cz (.str q t)
def LamO.up(h:LamO q params body scope clos H fa)(e:Same H H'):LamO q params body scope clos H' fa:=by
 obtain⟨pm,c',mC,oc,vs,t,b,h1,h2,h3⟩:=h;exact⟨pm,c',mC,oc,vs,t,b,e _ _ h1,e _ _ h2,h3⟩
def c1M(q:bE)(params:oy)(body:Expr)(scope:gC)(clos:List (bE×av)):TE:=λ_ H Q=>∀fa H',Same H H'->LamO q params body scope clos H' fa->Q (.ref fa) H'
def b1W{X:Cx}(hx:x∈L9)(hP:B0 X.K x=cz P)(hc:X.env.code=.ref c)(hd:gD X.base c P)(hq:X.env.qual++"<lambda>"=V9 x)
  (qG:pL scope X.env=pure clos) (tU:defaultsOf params X.env=([],[])):PE X (.Lambda params body scope kJ) (c1M (V9 x) params body scope clos):=by
 intro pins s U H Q I h;refine PySem.W.kla_eval tU ?_;rw[hq];obtain⟨qs,t0,e1,e2⟩:=I.tabs x hx P hP;obtain⟨ps,wG,ht,hf⟩:=(show a6o H s.heap P qs from I.hok P _ e1);have zp:s.heap.Ns bV X.mg:=I.mod.glob.keeps I.bk;obtain⟨bm,ob,b1,b2,b3,b4,b5,b6⟩:=I.mod.bmain;have DW:bV≠P:=λq=>by
  obtain⟨o,es,ep,e,jX,_⟩:=zp;rw[q,wG]at e;cases e;cases jX
 have En:bm≠P:=λq=>by
  have e:=I.bk _ _ b3;rw[q,wG]at e;cases e;cases b4
 have Eo:bm≠bV:=λq=>by
  obtain⟨o,es,ep,e,jX,_⟩:=I.mod.glob;rw[q,e]at b3;cases b3;rw[jX]at b6;cases b6
 have hB:s.heap.BuiltinsAt X.mg P:=⟨bm,ob,b1,b2,Eo,En,I.bk _ _ b3,b4,b5,b6⟩;have hC:gD s.heap c P:=hd.keeps I.bk;cases hn:lX kJ ps.toList with
 |some cv=>
  obtain⟨c',oc,vs,q,t,t',rfl,z2,z3,z4,z5⟩:=hf kJ cv hn;rw[e2]at z5;have BZ:rY (V9 x) t0=rY q t':=aH z5;cases BZ
  refine PySem.W.kla_makeFunctionHit (mg:=X.mg) qG I.ok.glob zp hc hC wG ht hn hB λmC h' tk hk kN=>?_
  have mP:H h'.objs.size=xn:=I.hok.fresh kN;have I':=I.laid (a:=h'.objs.size) (o:=.frz (eV "<lambda>" (V9 x) params body scope clos ((X.mg "__name__").getD .none) c' mC) (.own h'.objs.size)) (t':=tk) (h':=h'.push (eV "<lambda>" (V9 x) params body scope clos ((X.mg "__name__").getD .none) c' mC)) (λb u e=>aG _ (hk b u e)) kN ⟨bh _ rfl,_,bh _ rfl⟩;refine⟨.ref h'.objs.size,_,I',rfl,h _ _ (k8 mP _) ⟨_,c',mC,oc,vs,t,P,f8,?_,z3,z4⟩⟩;rw[c7 (i6 z2 mP)];exact z2
 |none=>
  refine PySem.W.kla_makeFunction (mg:=X.mg) qG I.ok.glob zp hc hC wG ht hn DW hB λc' mC h' tk CO uJ jk yT AW=>?_
  obtain⟨c2,oc,vs,t,rc,vI,Bl,qT⟩:=yT;cases rc
  have Ey:P<s.heap.objs.size:=aU wG;have xF:H c'=xn:=I.hok.fresh uJ;have qW:s.heap.objs.size<=h'.objs.size:=eN (fZ uJ jk);have mP:H h'.objs.size=xn:=I.hok.fresh qW;have iU:c'≠h'.objs.size:=bP jk;have low:∀b u,H b=cz u->upd (upd H c' (.frz oc (.own P))) h'.objs.size (.frz (eV "<lambda>" (V9 x) params body scope clos ((X.mg "__name__").getD .none) c' mC) (.own h'.objs.size)) b=cz u:=λb u e=>by
   rw[c7 (i6 e mP),c7 (i6 e xF)];exact e
  have yt:∀b,b<s.heap.objs.size->H b=xn->upd (upd H c' (.frz oc (.own P))) h'.objs.size (.frz (eV "<lambda>" (V9 x) params body scope clos ((X.mg "__name__").getD .none) c' mC) (.own h'.objs.size)) b=xn:=λb hb e=>by
   rw[c7 (bP (bo hb qW)),c7 (bP (bo hb uJ))];exact e
  have kp:∀b o,b≠P->s.heap.get? b=cz o->(h'.push (eV "<lambda>" (V9 x) params body scope clos ((X.mg "__name__").getD .none) c' mC)).get? b=cz o:=λb o hb e=>aG _ (CO b o hb e)
  have nP:∀b,H b=xn->b≠P:=λb e z=>by rw[z,e1]at e;cases e
  have I':=I.un (t':=tk) (h':=h'.push (eV "<lambda>" (V9 x) params body scope clos ((X.mg "__name__").getD .none) c' mC)) (H':=upd (upd H c' (.frz oc (.own P))) h'.objs.size (.frz (eV "<lambda>" (V9 x) params body scope clos ((X.mg "__name__").getD .none) c' mC) (.own h'.objs.size)))
   ⟨λb o e n _ _=>kp b o (nP b n) e,λb o e n _ _=>⟨o.slots,kp b o (nP b n) e⟩,λb o e n _=>yt b (aU e) n,λb o e _=>by
    by_cases hb:b=P
    ·exact⟨_,by rw[hb];exact aG _ AW⟩
    ·exact⟨o,kp b o hb e⟩,λb xs e=>low b _ e,λb o u e=>low b _ e,λb Fy e=>⟨#[],by rw[low b _ e];simp⟩⟩ (λb u e=>by
    by_cases Bq:b=h'.objs.size
    ·subst Bq;rw[f8]at e;cases e
     exact⟨bh _ rfl,_,bh _ rfl⟩
    ·rw[c7 Bq]at e;by_cases Bp:b=c'
     ·subst Bp;rw[f8]at e;cases e
      exact⟨aG _ vI,_,aG _ vI⟩
     ·rw[c7 Bp]at e;by_cases Bo:b=P
      ·subst Bo;rw[e1]at e;cases e
       refine⟨_,aG _ AW,?_,λpos cv z=>?_⟩
       ·have:(ps++#[iB kJ.line,iB kJ.col,bM c']).toList=ps.toList++[iB kJ.line,iB kJ.col,bM c']:=by simp
        rw[this];exact a7g _ _ ht trivial
       ·have:(ps++#[iB kJ.line,iB kJ.col,bM c']).toList=ps.toList++[iB kJ.line,iB kJ.col,bM c']:=by simp
        rw[this]at z;rcases b1V _ _ ht z with z|z
        ·obtain⟨c3,CA,Ce,q3,t3,t4,y1,y2,y3,y4,y5⟩:=hf pos cv z;exact⟨c3,CA,Ce,q3,t3,t4,y1,low _ _ y2,y3,y4,y5⟩
        ·have z':cv=.ref c':=by
          simp only[iB,lX]at z
          split at z
          ·exact (aH z).symm
          ·cases z
         refine⟨c',oc,vs,V9 x,t,t0,z',?_,Bl,qT,e2⟩;rw[c7 iU,f8]
      ·refine (I.hok b u e).stay (λd v jX q=>kp d v (λz=>?_) q) (λd q=>low _ _ q) λd v q=>low _ _ q
       rcases jX with z'|z'
       ·exact Bo (z'.symm.trans z)
       ·rw[z,e1]at z';cases z')
  refine⟨.ref h'.objs.size,_,I',rfl,h _ _ (λb u e=>low b u e) ⟨_,c',mC,oc,vs,t,P,f8,?_,Bl,qT⟩⟩;rw[c7 iU,f8]
def a9T(P:bB)(w:bZ)(K:ag)(mg:bE->Option ak)(base:cS)(N:List bE)(q:bE)(scope:gC)(f:av)(cd:ak)(cl:List (bE×av))(A:bS)(outer:List oQ)(s:ar)(H:Hp):Cx where
 prog:=P
 w:=w
 K:=K
 mg:=mg
 base:=base
 A:=A.deeper (jD q scope s.heap.objs.size f cd cl)
 N:=N
 s₀:=s
 H₀:=H
 env:=jD q scope s.heap.objs.size f cd cl
 outer:=outer
 stack:=jD q scope s.heap.objs.size f cd cl::outer
 ex:=[]
 calm:=yn
 fn:=λ_=>yp
 pn:=[]
 xe:=λ_ _=>False
structure LamScope (N ps ys:List bE) (sc:gC) (cl:List (bE×av)):Prop where
 kind:sc.kind=.function
 co:sc.isCoroutine=yp
 gen:sc.isGenerator=yp
 nd:N.Nodup
 pre:N=ps++ys
 par:∀x∈ps,sc.names.lookup x=cz .local
 fre:∀y∈ys,sc.names.lookup y=cz .free
 ncell:∀x∈sc.names,x.2≠.cell
 has:(sc.names.all λx=>x.2 !=.free||(cl.lookup x.1).isSome)=yn
def CellsIn(cl:List (bE×av))(H:Hp):List bE->List V->Prop
 |[],vs=>vs=[]
 |y::ys,vs=>∃v r c ob uo,vs=v::r/\cl.lookup y=cz c/\H c=cz (.frz ob (.own c))/\ob.data=.cell (cz uo)/\RelV v uo/\CellsIn cl H ys r
section
variable {cl:List (bE×av)}{H H':Hp}
theorem CellsIn.up(e:Same H H'):∀{ys:List bE} {vs:List V},CellsIn cl H ys vs->CellsIn cl H' ys vs
 |[],_,h=>h
 |y::ys,_,h=>by
  obtain⟨v,r,c,ob,uo,h1,h2,h3,h4,h5,h6⟩:=h;exact⟨v,r,c,ob,uo,h1,h2,e _ _ h3,h4,h5,CellsIn.up e h6⟩
theorem CellsIn.len:∀{ys:List bE} {vs:List V},CellsIn cl H ys vs->vs.length=ys.length
 |[],_,h=>by rw[show _=[] from h];rfl
 |y::ys,_,h=>by
  obtain⟨v,r,c,ob,uo,rfl,h2,h3,h4,h5,h6⟩:=h;rw[aS,aS,CellsIn.len h6]
theorem CellsIn.get:∀{ys:List bE} {vs:List V} {i:Nat} {y:bE} {v:V},CellsIn cl H ys vs->ys[i]?=cz y->vs[i]?=cz v->∃c ob uo,cl.lookup y=cz c/\H c=cz (.frz ob (.own c))/\ob.data=.cell (cz uo)/\RelV v uo
 |[],_,i,y,v,_,e,_=>by simp at e
 |y0::ys,_,0,y,v,h,e1,e2=>by
  obtain⟨v',r,c,ob,uo,rfl,h2,h3,h4,h5,h6⟩:=h;have EW:y0=y:=by simpa using e1
  have EV:v'=v:=by simpa using e2
  subst EW EV;exact⟨c,ob,uo,h2,h3,h4,h5⟩
 |y0::ys,_,i+1,y,v,h,e1,e2=>by
  obtain⟨v',r,c,ob,uo,rfl,h2,h3,h4,h5,h6⟩:=h;exact CellsIn.get h6 (by simpa using e1) (by simpa using e2)
end
def b4e(cl:List (bE×av))(H:Hp):Prop:=∀y c,cl.lookup y=cz c->∃ob uo,H c=cz (.frz ob (.own c))/\ob.data=.cell uo
noncomputable def fnE(us:List Ty)(rg:List D)(f:EvE):List D->Option D:=λds=>if argsOk us ds then f (ds++rg) else xn
theorem b8b{K:ag}{H:Hp}:∀{vs:List V} {ds:List D},DenAll K H vs ds->StAll K H [] (aT vs.length (.own .f)) ds (vs.map cz) []
 |_,[],h=>by rw[h.nil_inv];exact L7
 |_,d::ds,h=>by
  obtain⟨v,r,rfl,h1,h2⟩:=h.cons_inv;refine i7 (K:=K) (H:=H) (F:=[]) (m:=.own .f) (f:=[]) (g:=[]) ⟨v,rfl,?_⟩ (b8b h2);simp only[Own,K6];exact⟨trivial,h1⟩
theorem a2m:∀(ps:List α) (us:List β),((ps.zip us).map (·.1)).Sublist ps
 |[],_=>by rw[n_];exact fM _
 |p::ps,[]=>by rw[nu];exact Fi _
 |p::ps,u::us=>by rw[dB,ax];exact (a2m ps us).cons₂ p
def a3G{ps:List bE}{us:List ak}:∀{i:Nat} {y:bE} {v:ak},ps.Nodup->ps[i]?=cz y->us[i]?=cz v->(ps.zip us).reverse.lookup y=cz v:=by
 intro i y v nd h1 h2;have hm:(y,v)∈(ps.zip us).reverse:=by
  rw[List.mem_reverse];exact bt (by rw[rm];exact⟨h1,h2⟩)
 have hk:(((ps.zip us).reverse).map (·.1)).Nodup:=by
  rw[List.map_reverse];have h0:((ps.zip us).map (·.1)).Nodup:=nd.sublist (a2m ps us);exact uW.mpr (h0.imp λz=>cR z)
 have key:∀l:List (bE×ak),(l.map (·.1)).Nodup->(y,v)∈l->l.lookup y=cz v:=by
  intro l
  induction l with
  |nil=>intro _ h;cases h
  |cons p l ih=>
   intro hn hm;rw[ax,bY]at hn;obtain⟨k,z⟩:=p;rcases aD.mp hm with e|e
   ·cases e;simp[List.lookup]
   ·have:(y==k)=yp:=by
     rw[fS];intro q;exact hn.1 (q▸aI.mpr ⟨_,e,rfl⟩)
    rw[fV,this];exact ih hn.2 e
 exact key _ hk hm
def b6T{P:bB}{w:bZ}{K:ag}{mg:bE->Option ak}{base:cS}{k:Nat}{q:bE}{params:oy}{body:Expr}{scope:gC}{cl:List (bE×av)}{N ps ys:List bE}{us:List Ty}{u:Ty}{f:EvE}{lN:List V}{rg:List D}{H:Hp}{fa:av}
  (L:LamO q params body scope cl H fa) (S:LamScope N ps ys scope cl) (tQ:∀x y c,cl.lookup x=cz c->cl.lookup y=cz c->x=y) (hC:CellsIn cl H ys lN) (xM:b4e cl H) (hD:DenAll K H lN rg) (oE:us.length=ps.length)
  (nQ:∀(pm:ak) (c:av) (mC:ak) (us:List ak),us.length=ps.length->qM (PySem.W.kla_fn "<lambda>" q params body scope cl pm (.ref c) mC) ⟨us,[]⟩=pure (ps.zip us))
  (hb:∀(c:av) (A:bS) (outer:List oQ) (s:ar) (H:Hp),Room k (A.deeper (jD q scope s.heap.objs.size fa (.ref c) cl))->PX (a9T P w K mg base N q scope fa (.ref c) cl A outer s H) (us.map .own++aT ys.length (.own .f)) body f (.new u)) :
  FnV P w K mg base (k+1) ps.length u (fnE us rg f) H (.ref fa):=by
 obtain⟨pm,c',mC,oc,Cf,t0,b0,l1,l2,l3,l4⟩:=L;refine⟨fa,_,rfl,l1,⟨_,rfl⟩,λA outer s as vs Q E hr e0 rv ⟨ds,d,hl,hd,hm,hq⟩=>?_⟩;obtain⟨C,memC,vo⟩:∃C:List av,(∀c∈C,∃y,cl.lookup y=cz c)/\∀y c,cl.lookup y=cz c->c∈C:=
  ⟨(cl.map (·.1)).filterMap λy=>cl.lookup y,λc hc=>let⟨y,_,e⟩:=dW.mp hc;⟨y,e⟩,λy c e=>dW.mpr ⟨y,aI.mpr ⟨(y,c),cA e,rfl⟩,e⟩⟩
 have J:Junk H C:=λa ha u e=>by
  obtain⟨y,hy⟩:=memC a ha;obtain⟨ob,uo,h1,_⟩:=xM y a hy;rw[h1]at e;cases e
  exact⟨ob,rfl⟩
 have CK:∀a∈C,∃u,H a=cz u:=λa ha=>by
  obtain⟨y,hy⟩:=memC a ha;obtain⟨ob,uo,h1,_⟩:=xM y a hy;exact⟨_,h1⟩
 have lim:s.heap.NoLimit:=e0.mod.nolimit.keeps λb o e=>(e0.bs b o e).1
 have ho:s.heap.get? fa=cz (eV "<lambda>" q params body scope cl pm c' mC):=(e0.hok fa _ l1).1;have Eh:s.heap.CodeRec (.ref c') q:=⟨c',oc,Cf,t0,rfl,(e0.hok c' _ l2).1,l3,l4⟩;have Er:as.length=ps.length:=by rw[<-rv.length];exact hl
 have CB:ps.Nodup:=by have:=S.nd;rw[S.pre]at this;exact this.sublist (kE _ _)
 refine PySem.W.kla_callFunE hr.depth ho rfl S.co S.gen rfl Eh ?_;rw[nQ pm c' mC as Er];refine aE (wpAny_newFunctionEnv S.ncell (λy hy=>S.par _ (jt hy).1) (λh₁ rL yP=>⟨lim.fresh _ yP,?_⟩) S.kind);show gX _ _ (.expr body (jD q scope s.heap.objs.size fa (.ref c') cl)) _ _;have oZ:∀b o,s.heap.get? b=cz o->h₁.get? b=cz o:=λb o e=>yP.extBut b o (bP (aU e)) (aG _ e)
 have sY:∀b:av,b∉(a9T P w K mg base N q scope fa (.ref c') cl A outer s (VS.cut H C)).ex:=λb z=>absurd (show b∈([]:List av) from z) (by simp)
 have DG:N.length=ps.length+ys.length:=by rw[S.pre,aA]
 have I:Inv (a9T P w K mg base N q scope fa (.ref c') cl A outer s (VS.cut H C)) [] (vs.map cz++lN.map cz) (VS.cut H C) {s with heap:=h₁,toks:=s.toks+(ps.zip as).length}:=by
  refine⟨⟨e0.mod,S.kind,rfl,rfl,ay _,tQ,λx hx=>?_,λx c hx _=>(nomatch hx),λ_=>hr.hd,bS.frames_deeper e0.frames,.inr ⟨rfl,rfl⟩,λb z=>absurd z (sY b),λb o e=>⟨(e0.bs b o e).1,N6 (e0.bs b o e).2⟩,e0.bsz,λb _ _=>sY b,λb z=>absurd z (sY b),e0.funs,λb hb=>N6 (e0.frf b hb),b1U e0.tabs J⟩,
   rfl,e0.bare,Un.kept oZ,⟨_,rL,λi x v h1 h2 h3=>?_⟩,λx c e=>?_,N6 (e0.hok.fresh (ay _)),λx c e=>a1r (vo x c e),λp hp=>absurd (show p∈([]:List (av×fY)) from hp) (by simp),(a7f e0.hok J).kept oZ,?_⟩
  ·have vw:scope.names.lookup x=cz .cell\/scope.names.lookup x=cz .free:=hx;rcases vw with z|z
   ·exact absurd rfl (S.ncell _ (cA z))
   ·have w:=eK.mp S.has _ (cA z);rw[lA]at w;rcases w with w|w
    ·exact absurd (show (fE !=fE)=yn from w) (by decide)
    ·exact kC.mp w
  ·have nE:(ps++ys)[i]?=cz x:=by rw[<-S.pre];exact h1
   by_cases hi:i<ps.length
   ·rw[dw hi]at nE;rw[dw (by rw[ai,hl];exact hi),aQ]at h2;have mS:vs[i]?=cz v:=by
     cases e:vs[i]? with
     |none=>rw[e]at h2;cases h2
     |some a=>rw[e]at h2;cases h2;rfl
    obtain⟨u',hu,r⟩:=rv.get mS;exact⟨u',r,.inl ⟨S.par x (bt nE),a3G CB nE hu⟩⟩
   ·rw[cu (by lia)]at nE;rw[cu (by rw[ai,hl];lia),ai,aQ,hl]at h2;have mS:lN[i-ps.length]?=cz v:=by
     cases e:lN[i-ps.length]? with
     |none=>rw[e]at h2;cases h2
     |some a=>rw[e]at h2;cases h2;rfl
    obtain⟨c,ob,uo,z1,z2,z3,z4⟩:=hC.get nE mS;exact⟨uo,z4,.inr ⟨.inr (S.fre x (bt nE)),c,z1,ob,oZ c ob (e0.hok c _ z2).1,z3⟩⟩
  ·obtain⟨ob,uo,z1,z2⟩:=xM x c e;exact⟨uo,ob,oZ c ob (e0.hok c _ z1).1,z2⟩
  ·show _=N.length;rw[aA,ai,ai,hl,hC.len,DG]
 obtain⟨t,pt,qt⟩:=(hb c' A outer s (VS.cut H C) (hr.deeper _)).out;unfold fnE at hm;by_cases ha:argsOk us ds=yn
 ·rw[aB ha]at hm;have wu:DenAll K (VS.cut H C) vs ds:=DenAll.junk J ds hd;have Ej:DenAll K (VS.cut H C) lN rg:=DenAll.junk J rg hD;have h0:=T5 (K:=K) (H:=VS.cut H C) ha wu 0;simp only[gN,bb]at h0;have h1:=b8b Ej;rw[hC.len]at h1;have SE:StE K (us.map .own++aT ys.length (.own .f)) (ds++rg) (vs.map cz++lN.map cz) (VS.cut H C) (VS.cut H C) []:=⟨⟨_,h0.app h1,λa ha=>(nomatch ha)⟩,λa ha=>(nomatch ha),by rw[K6];exact Same.refl _⟩;refine PySem.W.kla_codeExpr (dU (pt [] _ _ (VS.cut H C) (λv H'=>Same (VS.cut H C) H'/\ResR K (.new u) (VS.cut H C) H' [] v d) I (qt (ds++rg) _ (VS.cut H C) (VS.cut H C) [] d _ SE hm λv H' e r=>⟨e,r⟩)) (λv s' hs=>?_) λe s' hs=>(show False from hs).elim);obtain⟨v',H',J',r',e',fp,o,nd,fr⟩:=hs;have pE:∀c∈C,H' c=xn:=λc hc=>by
   obtain⟨y,hy⟩:=memC c hc;exact J'.freeC y c hy
  have inn:∀{b:av} {o:HO},H' b=cz o->b6R C H H' b=cz o:=λ{b o} q=>by
   rw[J8 (λz=>by rw[pE b z]at q;cases q)];exact q
  have nC:∀{b:av},H b=xn->b∉C:=λ{b} n z=>by
   obtain⟨u,hu⟩:=CK b z;rw[n]at hu;cases hu
  have xO:∀a∈fp,a∉C:=λa ha z=>by
   obtain⟨ys,q⟩:=o.lst u a ha;rw[pE a z]at q;cases q
  refine (show CE outer P w H s Q v s' from⟨v',b6R C H H',J'.os,J'.bare,⟨λb o q n hb hx=>J'.base.keep b o q (N6 n) hb hx,λb o q n hb hx=>J'.base.slot b o q (N6 n) hb hx,λb o q n hx=>?_,J'.base.there,λb xs e=>?_,λb o u e=>?_,λb ps e=>?_⟩,λb o e=>?_,r',hq v' _ fp (λb o e=>?_) ?_ nd λa ha=>?_⟩)
  ·rw[J8 (nC n)];exact J'.base.free b o q (N6 n) hx
  ·have nb:=J.out e λo z=>(nomatch z)
   rw[J8 nb];exact J'.base.tups b xs (i9 nb e)
  ·by_cases hb:b∈C
   ·rw[a5T hb];exact e
   ·rw[J8 hb];exact J'.base.frzs b o u (i9 hb e)
  ·have nb:=J.out e λo z=>(nomatch z)
   obtain⟨more,z⟩:=J'.base.tbls b ps (i9 nb e);exact⟨more,by rw[J8 nb];exact z⟩
  ·by_cases hb:b∈C
   ·rw[a5T hb]at e;obtain⟨ob,rfl⟩:=J b hb o e;have z:=(e0.hok b _ e).1;have z':=J'.base.keep b ob z (a1r hb) (λy=>by rw[e0.frf b y]at e;cases e) (by intro y;exact absurd (show b∈([]:List av) from y) (by simp));exact⟨z',_,z'⟩
   ·rw[J8 hb]at e;exact (J'.hok b o e).stay (λ_ _ _ q=>q) (λb q=>inn q) λb u q=>inn q
  ·by_cases hb:b∈C
   ·rw[a5T hb];exact e
   ·rw[J8 hb];exact e' b o (i9 hb e)
  ·refine Own.frame (λb o' hb=>?_) u o λa ha=>J8 (xO a ha)
   obtain⟨n1,n2⟩:=m8 hb;exact i9 (λz=>n1 (aj _ z)) (inn n2)
  ·have:=fr a ha;rw[a0P (xO a ha)]at this;exact this
 ·rw[aJ ha]at hm;cases hm
def a9U(X:Cx)(cl:List (bE×av)):List bE->List Nat->Prop
 |[],js=>js=[]
 |y::ys,js=>∃j r c,js=j::r/\X.N[j]?=cz y/\X.env.kindOf y=cz .cell/\X.env.cells.lookup y=cz c/\cl.lookup y=cz c/\a9U X cl ys r
def c1N(X:Cx)(cl:List (bE×av)):Prop:=∀p∈cl,X.env.cells.lookup p.1=cz p.2/\X.fn p.1=yn
def b6U(U:L2.St):List Nat->List V->Prop
 |[],vs=>vs=[]
 |j::js,vs=>∃v r,vs=v::r/\U[j]?=cz (cz v)/\b6U U js r
def b9Y(X:Cx)(cl:List (bE×av))(ys:List bE)(js:List Nat)(sp:Sp)(t:TA):TE:=λU H Q=>t U H λvs H1=>∃lN,b6U U js lN/\
 ∀(H2:Hp) (C:List av),(∀x y c,cl.lookup x=cz c->cl.lookup y=cz c->x=y)->Same H1 H2->CellsIn cl H2 ys lN->b4e cl H2->Junk H2 C->(∀b,b∉C->H2 b=H1 b)->(∀b∈C,H1 b=xn)->sp vs H2 (λv H'=>Junk H' C->Q v (VS.cut H' C)) E0
theorem a7h{cl:List (bE×av)}(I:Inv X pins U H s)(h2:∀y c,cl.lookup y=cz c->∀ob,s.heap.get? c=cz ob->H2 c=cz (.frz ob (.own c))) :
  ∀{ys:List bE} {js:List Nat} {lN:List V},a9U X cl ys js->b6U U js lN->CellsIn cl H2 ys lN
 |[],js,lN,h,q=>by
  rw[show js=[] from h]at q;exact q
 |y::ys,_,lN,h,q=>by
  obtain⟨j,r,c,rfl,h1,h3,h4,h5,h6⟩:=h;obtain⟨v,rs,rfl,q1,q2⟩:=q;obtain⟨m,hn,hl⟩:=I.loc;obtain⟨u,ru,lk⟩:=hl j y v h1 q1 (.inr (.inl h3));rcases lk with⟨k,_⟩|⟨k,c',e',ob,z1,z2⟩
  ·rw[h3]at k;cases k
  ·rw[h4]at e';cases e'
   exact⟨v,rs,c,ob,u,rfl,h5,h2 y c h5 ob z1,z2,ru,a7h I h2 h6 q2⟩
section
variable {X:Cx}{k:Nat}{f:av}{fd:dS}{ps:List bE}{sp:Sp}{x:bE}{p pos:fW}{e:Expr}{es:List Expr}{t:TA}{cl:List (bE×av)}{ys:List bE}{js:List Nat}
def b4f(F:FnOk X.prog X.w X.K X.mg X.base CX0 k f fd ps sp)(hr:Room k X.A)(hg:Gl X x)(hm:X.mg x=cz (.ref f))(hk:fU X.K (.ref f)=yn)(hb:Binds X.K fd ps [])(ha:PA X (e::es) t)(tX:a9U X cl ys js)(jB:c1N X cl)
  (mB:(x==("__debug__":bE))=yp) (he:au (e::es) X.env=(yp,cK e X.env)::au es X.env) (gT:(cM pos (au es X.env)).any (·.1)=yp) :
  PE X (.Call (.Name x p) (e::es) [] pos) (b9Y X cl ys js sp t):=by
 intro pins s0 U H0 Q I0 h;refine gx (a5q I0 hg hm ?_ mB);refine Aj (h₀:=X.base) I0.ok.mod.kin hk (L2.thn (ha pos pins s0 U H0 _ I0 h) λus s ⟨vs,H,I,r,lN,Eg,q⟩=>⟨I.kIn,?_⟩) he gT;obtain⟨C,memC,vo⟩:∃C:List av,(∀c∈C,∃y,cl.lookup y=cz c)/\∀y c,cl.lookup y=cz c->c∈C:=
  ⟨(cl.map (·.1)).filterMap λy=>cl.lookup y,λc hc=>let⟨y,_,e⟩:=dW.mp hc;⟨y,e⟩,λy c e=>dW.mpr ⟨y,aI.mpr ⟨(y,c),cA e,rfl⟩,e⟩⟩
 have pq:∀c∈C,∃y,X.env.cells.lookup y=cz c/\X.fn y=yn:=λc hc=>by
  obtain⟨y,hy⟩:=memC c hc;exact⟨y,jB _ (cA hy)⟩
 have pE:∀c∈C,H c=xn:=λc hc=>by
  obtain⟨y,hy,_⟩:=pq c hc;exact I.freeC y c hy
 have mX:∀c∈C,∃ob v,s.heap.get? c=cz ob/\ob.data=.cell v:=λc hc=>by
  obtain⟨y,hy,_⟩:=pq c hc;obtain⟨v,ob,z1,z2⟩:=I.cell y c hy;exact⟨ob,v,z1,z2⟩
 have sE:∀c∈C,X.s₀.heap.objs.size<=c:=λc hc=>by
  obtain⟨y,hy,hf⟩:=pq c hc;exact I.ok.cab y c hf hy
 obtain⟨H2,qK,mR⟩:∃H2:Hp,(∀c∈C,∀ob,s.heap.get? c=cz ob->H2 c=cz (.frz ob (.own c)))/\∀b,b∉C->H2 b=H b:=
  ⟨λb=>if b∈C then (s.heap.get? b).map (λo=>HO.frz o (.own b)) else H b,λc hc ob z=>by show (if c∈C then _ else _)=_;rw[aB hc,z];rfl,λb hb=>aJ hb⟩
 have lR:Same H H2:=λb o e=>by
  rw[mR b (λz=>by rw[pE b z]at e;cases e)];exact e
 have J2:Junk H2 C:=λa hm u e=>by
  obtain⟨ob,v,z1,_⟩:=mX a hm;rw[qK a hm ob z1]at e;cases e
  exact⟨ob,rfl⟩
 have rK:HOk X.prog X.w H2 s.heap:=λb o e=>by
  by_cases hb:b∈C
  ·obtain⟨ob,v,z1,_⟩:=mX b hb;rw[qK b hb ob z1]at e;cases e
   exact⟨z1,_,z1⟩
  ·rw[mR b hb]at e;exact (I.hok b o e).stay (λ_ _ _ q=>q) (λb q=>lR _ _ q) λb u q=>lR _ _ q
 have e0:Env0 X.prog X.w X.K X.mg X.base X.A X.stack s H2:=by
  have z:=I.env0;refine⟨z.frames,z.mod,λb o e=>⟨(z.bs b o e).1,?_⟩,z.bsz,z.funs,λb hb=>?_,rK,z.bare,λx hx p e=>?_⟩
  ·rw[mR b λhc=>absurd (bo (aU e) (cF I.ok.bsz (sE b hc))) (dR _)];exact (z.bs b o e).2
  ·rw[mR b λhc=>?_]
   ·exact z.frf b hb
   ·rcases aD.mp (I.stkSub b hb) with e|e
    ·obtain⟨y,hy,_⟩:=pq b hc;exact I.cne y b hy e
    ·obtain⟨_,o,ho,_⟩:=I.ok.funs.mem e;exact absurd (bo (aU ho) (sE b hc)) (dR _)
  ·obtain⟨qs,t',e1,e2⟩:=z.tabs x hx p e;exact⟨qs,t',lR _ _ e1,e2⟩
 have qu:=q H2 C (λx y c z1 z2=>I.ok.inj x y c (jB _ (cA z1)).1 (jB _ (cA z2)).1) lR (a7h I (λy c hy ob z=>qK c (vo y c hy) ob z) tX Eg) (λy c hy=>by
  obtain⟨ob,v,z1,z2⟩:=mX c (vo y c hy);exact⟨ob,v,qK c (vo y c hy) ob z1,z2⟩) J2 mR pE
 have r2:Vals vs (us++[]):=by rw[bb];exact r
 have hl:(us++[]).length=ps.length:=by rw[<-r2.length];exact F.len _ _ _ _ qu
 refine uZ (iX (F.run X.A X.stack s H2 ⟨us,[]⟩ (us++[]) vs _ E0 hr e0 (hb s us I.kIn hl) r2 qu) λr s' hq=>?_);cases r with
 |error e=>exact dC hq
 |ok fl=>
  cases fl with
  |next=>exact dC hq
  |brk=>exact dC hq
  |cont=>exact dC hq
  |ret u=>
   obtain⟨v,H',os,bare,un,qx,rv,qv⟩:=(show CE X.stack X.prog X.w H2 s _ u s' from hq);have fz:∀c∈C,∃ob,s.heap.get? c=cz ob/\H' c=cz (.frz ob (.own c))/\s'.heap.get? c=cz ob:=λc hc=>by
    obtain⟨ob,v,z1,_⟩:=mX c hc;have z2:=un.frzs c ob _ (qK c hc ob z1);exact⟨ob,z1,z2,(qx c _ z2).1⟩
   have J':Junk H' C:=λa hm u e=>by
    obtain⟨ob,_,z,_⟩:=fz a hm;rw[z]at e;cases e
    exact⟨ob,rfl⟩
   have n2:∀b,H b=xn->b∉C->H2 b=xn:=λb n hb=>by rw[mR b hb];exact n
   have oC:∀b u,H b=cz u->b∉C:=λb u e z=>by rw[pE b z]at e;cases e
   have Ci:Un (frs X.stack) [] H (VS.cut H' C) s.heap s'.heap:=by
    refine⟨λb o e n hb hx=>?_,λb o e n hb hx=>?_,λb o e n hx=>?_,un.there,λb xs e=>?_,λb o u e=>?_,λb ps e=>?_⟩
    ·by_cases hc:b∈C
     ·obtain⟨ob,z1,_,z3⟩:=fz b hc;rw[e]at z1;cases z1
      exact z3
     ·exact un.keep b o e (n2 b n hc) hb hx
    ·by_cases hc:b∈C
     ·obtain⟨ob,z1,_,z3⟩:=fz b hc;rw[e]at z1;cases z1
      exact⟨o.slots,z3⟩
     ·exact un.slot b o e (n2 b n hc) hb hx
    ·by_cases hc:b∈C
     ·exact a1r hc
     ·exact N6 (un.free b o e (n2 b n hc) hx)
    ·exact i9 (oC b _ e) (un.tups b xs (lR _ _ e))
    ·exact i9 (oC b _ e) (un.frzs b o u (lR _ _ e))
    ·obtain⟨more,z⟩:=un.tbls b ps (lR _ _ e);exact⟨more,i9 (oC b _ e) z⟩
   exact⟨v,VS.cut H' C,I.call' os Ci (a7f qx J') bare (λb z=>absurd z (by simp)),rv,qv J'⟩
end
def P1(scope:gC)(env:oQ):List (bE×av):=scope.names.foldl (λcs p=>if p.2==.free then (match env.cells.lookup p.1 with|some c=>(p.1,c)::cs|none=>cs) else cs) []
def a8A:∀p∈P1 scope env,env.cells.lookup p.1=cz p.2:=by
 have key:∀(l:List (bE×i_)) (cs:List (bE×av)),(∀p∈cs,env.cells.lookup p.1=cz p.2)->∀p∈l.foldl (λcs p=>if p.2==.free then (match env.cells.lookup p.1 with|some c=>(p.1,c)::cs|none=>cs) else cs) cs,env.cells.lookup p.1=cz p.2:=by
  intro l
  induction l with
  |nil=>intro cs h;exact h
  |cons a l ih=>
   intro cs h;rw[Gu];refine ih _ λp hp=>?_
   split at hp
   ·split at hp
    ·rename_i c hc
     rcases aD.mp hp with e|e
     ·rw[e];exact hc
     ·exact h p e
    ·exact h p hp
   ·exact h p hp
 exact key _ _ λp hp=>(nomatch hp)
def b6V{X:Cx}(mP:∀x,X.fn x=yn:=by exact λ_=>rfl):c1N X (P1 scope X.env):=λp hp=>⟨a8A p hp,mP _⟩
section
variable {X:Cx}{M:List Md}{e0:Expr}{es:List Expr}{f:EvA}{u uf:Ty}{x:bE}{p pos kJ:fW}{params:oy}{body:Expr}{scope:gC}{ys:List bE}{js:List Nat}
def b6W(hx:y∈L9)(hP:B0 X.K y=cz P)(hc:X.env.code=.ref c)(hd:gD X.base c P)(hq:X.env.qual++"<lambda>"=V9 y)
  (qG:pL scope X.env=pure (P1 scope X.env):=by rfl) (tU:defaultsOf params X.env=([],[]):=by rfl) (hs:au [.Lambda params body scope kJ] X.env=(yp,cK (.Lambda params body scope kJ) X.env)::au [] X.env:=by rfl) :
  PAL X M [.Lambda params body scope kJ] c6 λH v=>∃fa,v=.ref fa/\LamO (V9 y) params body scope (P1 scope X.env) H fa:=by
 refine⟨_,l0 (b1W hx hP hc hd hq qG tU) p9 hs,λZ U H P F ds Q S hf q=>?_⟩;cases hf
 exact λfa H' e L=>q [] (.ref fa) H' e denAll_nil ⟨fa,rfl,L⟩
def b9Z(M:List Md):List Nat->Prop
 |[]=>True
 |j::js=>(∃w,M[j]?=cz (.own w))/\b9Z M js
theorem a9V{K:ag}{Z:List D}{U:L2.St}{H P:Hp}{F:List av}(S:StE K M Z U H P F):∀{js:List Nat},b9Z M js->∃lN,b6U U js lN/\DenAll K H lN (js.map λj=>Z.getD j .none)
 |[],_=>⟨[],rfl,denAll_nil⟩
 |j::js,h=>by
  obtain⟨⟨w,hw⟩,h2⟩:=h;obtain⟨v,fp,e,o,_⟩:=S.get hw;obtain⟨lN,q1,q2⟩:=a9V S h2;exact⟨v::lN,⟨v,lN,rfl,e,q1⟩,denAll_cons (o.den w) q2⟩
noncomputable def b6X(m:(List D->Option D)->List D->Option D)(us:List Ty)(js:List Nat)(fb:EvE)(f:EvA):EvE:=λZ=>(f Z).bind (m (fnE us (js.map λj=>Z.getD j .none) fb))
def a8B{k kf n:Nat}{ps pl N:List bE}{q:bE}{us:List Ty}{fb:EvE}{m:(List D->Option D)->List D->Option D}
  (W:Has X.prog X.w X.K X.mg X.base x k ps (spL X.K n (λgm=>FnV X.prog X.w X.K X.mg X.base (kf+1) pl.length uf gm) m u)) (hr:Room k X.A) (h:PAL X M (e0::es) f λH v=>∃fa,v=.ref fa/\LamO q params body scope (P1 scope X.env) H fa)
  (tX:a9U X (P1 scope X.env) ys js) (hM:b9Z M js) (S:LamScope N pl ys scope (P1 scope X.env)) (oE:us.length=pl.length)
  (nQ:∀(pm:ak) (c:av) (mC:ak) (us:List ak),us.length=pl.length->qM (PySem.W.kla_fn "<lambda>" q params body scope (P1 scope X.env) pm (.ref c) mC) ⟨us,[]⟩=pure (pl.zip us))
  (hb:∀(fa c:av) (A:bS) (outer:List oQ) (s:ar) (H:Hp),Room kf (A.deeper (jD q scope s.heap.objs.size fa (.ref c) (P1 scope X.env)))->PX (a9T X.prog X.w X.K X.mg X.base N q scope fa (.ref c) (P1 scope X.env) A outer s H) (us.map .own++aT ys.length (.own .f)) body fb (.new uf))
  (hfl:∀Z ds,f Z=cz ds->ds.length=n) (hu:u.shut=yn:=by rfl) (mP:∀x,X.fn x=yn:=by exact λ_=>rfl)
  (hg:Gl X x:=by rfl) (mB:autoParam ((x==("__debug__":bE))=yp) ZV._auto_1) (he:au (e0::es) X.env=(yp,cK e0 X.env)::au es X.env:=by rfl) (gT:(cM pos (au es X.env)).any (·.1)=yp:=by rfl) :
  PX X M (.Call (.Name x p) (e0::es) [] pos) (b6X m us js fb f) (.new u):=by
 obtain⟨t,pa,qa⟩:=h;obtain⟨Ge,fd,F,b,kp,CF⟩:=W.ex;refine .mk ⟨_,b4f F hr hg CF kp b pa tX (b6V mP) mB he gT,λZ U H P F d Q S' hf q=>?_⟩;obtain⟨ds,h1,hf⟩:=bnd hf;refine qa Z U H P F ds _ S' h1 λvs v H1 e1 r1 ⟨fa,hv,L⟩=>?_
 subst hv;obtain⟨lN,c1,c2⟩:=a9V (S'.grow e1) hM;refine⟨lN,c1,λH2 C tQ s2 ci EZ J2 o2 n2=>?_⟩;refine⟨vs,.ref fa,_,ds,d,rfl,by rw[r1.length];exact hfl Z ds h1,r1.up s2,λH' e'=>b6T (L.up (s2.trans e')) S tQ (ci.up e') (λy c z=>let⟨ob,uo,w1,w2⟩:=EZ y c z;⟨ob,uo,e' _ _ w1,w2⟩) (c2.up (s2.trans e')) oE nQ (hb fa),hf,λv H' fp e o nd fr J'=>?_⟩;have xO:∀a∈fp,a∉C:=λa ha z=>by
  obtain⟨ys,w⟩:=o.lst u a ha;obtain⟨ob,w'⟩:=J' a z _ w;have:=ys.2;rw[w']at this;exact this
 have sm:Same H1 (VS.cut H' C):=λb o' hb=>i9 (λz=>by rw[n2 b z]at hb;cases hb) (e _ _ (s2 _ _ hb))
 refine q v (VS.cut H' C) (e1.trans sm) ⟨fp,(o.junk J' u).shut_out (λa ha=>?_) u hu,nd,λa ha=>?_⟩
 ·rcases ao.mp ha with z|z
  ·exact (o.junk J' u).lst u a z
  ·exact S'.lst' (e1.trans sm) a z
 ·have:=fr a ha;rw[o2 a (xO a ha)]at this;exact e1.free this
end
def b4g{P:bB}{w:bZ}{K:ag}{mg:bE->Option ak}{base:cS}{x:bE}{st:iE}{f:av}{fd:dS}{N ps:List bE}{k n:Nat}{us:List Ty}{u:Ty}{g:EvS}{M':List Md}(F:Fun K x x st f fd)(S:FnScope N ps (g8 st))(oE:us.length=ps.length)(hn:N.length=ps.length+n)
  (hb:∀(A:bS) (outer:List oQ) (s:ar) (H:Hp) (E:XK),Room k (A.deeper (jv x (g8 st) s.heap.objs.size f fd.code))->PSsX (a0M CX0 P w K mg base N x (g8 st) f fd.code A outer s H E).nox u [] (us.map .own++aT n .dead) (v7 st) g M') :
  FnOk P w K mg base CX0 (k+1) f fd ps (spD K ps.length (fnD us n g) u):=by
 obtain⟨oc,od,kV,doc,pm,an,gz,ct,pF,rfl,lk,iC⟩:=F.ex;refine b7S lk iC S (λvs H Q E ⟨ds,d,hl,_⟩=>hl) λA outer s H vs Q E hr ⟨ds,d,hl,hd,hm,q⟩=>?_
 obtain⟨t,p,r⟩:=(hb A outer s H E hr).out;refine⟨t,p.nox,?_⟩;unfold fnD at hm;by_cases ha:argsOk us ds=yn
 ·rw[aB ha]at hm;obtain⟨o,h1,h2⟩:=bnd hm;cases o with
  |rt d'=>
   have mS:cz d'=cz d:=h2;cases mS
   have e:L2.start N vs=vs.map cz++aT n xn:=by
    unfold L2.start;rw[show N.length-vs.length=n by lia]
   rw[e];refine r _ (ds++aT n iG) _ H H [] (.rt d) ⟨⟨[],T5 ha hd n,bD,λa ha=>(nomatch ha)⟩,λa ha=>(nomatch ha),by rw[K6];exact Same.refl H⟩ h1 ?_;exact λv H' fp o nd fr e=>q v H' fp e o nd fr
  |_=>cases h2
 ·rw[aJ ha]at hm;cases hm
def b4h{K:ag}{base:cS}{fd:dS}(e:(B0 K x).isSome=yn)(X:K.In base)(G:base.Ns bV mg)(a:gG K bV x=cz (cz (.ref f)))(l:K.lookup f=cz ⟨oc,od,.func fd,sl⟩) :
  ∃c p,fd.code=.ref c/\B0 K x=cz p/\gD base c p:=by
 obtain⟨p,hp⟩:=kC.mp e;obtain⟨f',FD,FC,BE,Aw,c,h1,h2,h3,h4⟩:=a4R hp X G;have h5:=kz X G a;rw[h1]at h5;cases h5
 rw[l]at h2;cases h2
 exact⟨c,p,h3,hp,h4⟩
end VS
namespace VS
open PySem PySem.Spec L2
def b4i(H:Hp)(x v:V):Prop:=∃t r,v=.ref t/\H t=cz (.tup [x,r])
noncomputable def c0a(K:ag)(MB:List Md)(fe:EvE)(u:Ty):TE:=λU H Q=>∃x,U[0]?=cz (cz x)/\spE K MB fe (.new u) U H λr H1=>∀t,H1 t=xn->Q (.ref t) (upd H1 t (.tup [x,r]))
abbrev eMv(fe:EvE):EvE:=K1 (a7 (a6 0) (a7 fe c6))
def a9W(h:eMv fe (d::cs)=cz y):∃e,fe (d::cs)=cz e/\y=.tuple [d,e]:=by
 obtain⟨ds,h1,h⟩:=bnd h;cases h
 obtain⟨x,h2,h1⟩:=bnd h1;cases h2
 obtain⟨r,h3,h1⟩:=bnd h1;cases h1
 obtain⟨e,h4,h3⟩:=bnd h3;obtain⟨z,h5,h3⟩:=bnd h3;cases h5
 cases h3
 exact⟨e,h4,rfl⟩
section
variable {K:ag}{H:Hp}{F F':List av}{t u:Ty}
theorem a7i(hc:∀v d f,Own K H F u v d f->Own K H F' u v d f)(hT:∀a zs,H a=cz (.tup zs)->a∉F'):∀{ds res:List D} {xs ys:List V} {fs fp:List av},ListAll (Own K H F' (.l t)) xs ds fs->ListAll (Own K H F (.tp [.f,u])) ys res fp->ys.length=xs.length->(∀(k:Nat) (x v:V),xs[k]?=cz x->ys[k]?=cz v->b4i H x v)->(∀(k:Nat) (d r:D),ds[k]?=cz d->res[k]?=cz r->∃e,r=cI [d,e])->
  ∃G,ListAll (Own K H F' (.tp [.l t,u])) ys res G/\G.Perm (fs++fp)
 |[],res,xs,ys,fs,fp,h1,h2,hl,_,_=>by
  obtain⟨rfl,rfl⟩:=h1.nil_inv;have:ys=[]:=eU.mp hl;subst this;have:res=[]:=eU.mp h2.length.symm;subst this;obtain⟨_,rfl⟩:=h2.nil_inv;exact⟨[],l8,ir _⟩
 |d::ds,[],xs,ys,fs,fp,h1,h2,hl,_,_=>by
  obtain⟨rfl,_⟩:=h2.nil_inv;obtain⟨x,kn,_,_,rfl,_⟩:=h1.cons_inv;simp at hl
 |d::ds,r::res,xs,ys,fs,fp,h1,h2,hl,hk,hr=>by
  obtain⟨x,kn,f1,g1,rfl,rfl,a1,b1⟩:=h1.cons_inv;obtain⟨v,Fo,f2,g2,rfl,rfl,a2,b2⟩:=h2.cons_inv;obtain⟨G,c1,c2⟩:=a7i hc hT b1 b2 (by simpa using hl) (λk x v q1 q2=>hk (k+1) x v (by simpa using q1) (by simpa using q2)) (λk d r q1 q2=>hr (k+1) d r (by simpa using q1) (by simpa using q2));obtain⟨a,r0,rfl,ha⟩:=hk 0 x v rfl rfl;obtain⟨e,rfl⟩:=hr 0 d r rfl rfl;simp only[Own]at a2;obtain⟨a',zs,dd,e0,qI,_,e1,AU⟩:=a2;cases e0
  rw[ha]at qI;cases qI
  cases e1
  simp only[OwnTs]at AU;obtain⟨v1,r1,d1,e1,BG,wN,q1,q2,rfl,⟨rfl,_⟩,v2,r2,d2,e2,xP,ni,q3,q4,rfl,o2,rfl,rfl,rfl⟩:=AU;cases q1
  cases q2
  cases q3
  cases q4
  refine⟨(f1++xP)++G,k9 ?_ c1,?_⟩
  ·simp only[Own];refine⟨a,_,_,rfl,ha,hT _ _ ha,rfl,?_⟩;simp only[OwnTs];exact⟨_,_,_,_,f1,xP,rfl,rfl,rfl,by simpa only [Own]using a1,_,_,_,_,xP,[],rfl,rfl,by simp,hc _ _ _ o2,rfl,rfl,rfl⟩
  ·simp only[bx,bb,aN];refine gq _ ((gq xP c2).trans ?_);rw[<-aN,<-aN];exact uq _ uV
end
theorem a7j:∀{ds res:List D},M8 pt1 tT (eMv fe) cs ds=cz res->∀(k:Nat) (d r:D),ds[k]?=cz d->res[k]?=cz r->∃e,r=cI [d,e]
 |[],res,h,k,d,r,h1,_=>by simp at h1
 |d0::ds,res,h,k,d,r,h1,h2=>by
  obtain⟨bs,b,e1,e2,e3⟩:=a0A h;cases e1
  cases e2
  rcases e3 with⟨_,y,ys,q1,q2,rfl⟩|⟨q,_⟩
  ·obtain⟨e,_,rfl⟩:=a9W q1;cases k with
   |zero=>cases h1;cases h2;exact⟨e,rfl⟩
   |succ k=>exact a7j q2 k d r (by simpa using h1) (by simpa using h2)
  ·cases q
section
variable {X:Cx}{M:List Md}{js:List Nat}{fe:EvE}{u:Ty}
def a8C{J:It}{Pr:Hp->Prop}{xs:List V}{ds res:List D}{Z:List D}{R:Hp->Prop}(S:StE X.K M Z U H1 P F)(hw:Walks J Pr xs)(qw:∀H2,Same (cut H1 F) H2->Pr H2)(hx:DenAll X.K (cut H1 F) xs ds)(hz:ds.length<=1000000)(hD:H1 Dl=xn)
  (h2:M8 pt1 tT (eMv fe) (js.map λj=>Z.getD j .none) ds=cz res)
  (q:∀H' ys fp,Same H1 H'->H' Dl=cz (.lst ys)->ListAll (Own X.K H' (Dl::fp++F) (.tp [.f,u])) ys res fp->fp.Nodup->(∀a∈fp,H1 a=xn)->Dl∉fp->ys.length=xs.length->(∀(k:Nat) (x v:V),xs[k]?=cz x->ys[k]?=cz v->b4i H' x v)->R H') :
  ∃W:Nat->Nat->List V->L2.St->Hp->Prop,(∃m,W 0 m [] (a0w [""] js U) (upd H1 Dl (.lst [])))/\∀i m ys U' H',W i m ys U' H'->(J.stop i H'/\R H')\/
   (J.go i H'/\∃(N:V->L2.St->Hp->Prop) (NO:L2.St->Hp->Prop),(∀y U3 H4,N y U3 H4->H4 Dl=cz (.lst ys)/\ys.length<aZ/\∃m',m'<m/\W (i+1) m' (ys++[y]) U3 (upd H4 Dl (.lst (ys++[y]))))/\
    (∀U3 H4,NO U3 H4->∃m',m'<m/\W (i+1) m' ys U3 H4)/\∀x H2,J.yld i H' x H2->D0 0 x U' H2 λU3 H3=>a3x U3 H3 λb H4=>if b=yn then c0a X.K (E1 (.own .f) 1 M js) fe u U3 H4 λy H5=>N y U3 H5 else NO U3 H4):=by
 have om:=hx.length;have uQ:Dl∉F:=λz=>by obtain⟨zs,w⟩:=S.lst Dl z;rw[hD]at w;cases w
 refine a1u hw (λi ys U' H'=>(∃w,U'=w::js.map λj=>(U[j]?).getD xn)/\H' Dl=cz (.lst ys)/\Same H1 H'/\∃(fp:List av) (zs rs:List D),ListAll (Own X.K H' (Dl::fp++F) (.tp [.f,u])) ys zs fp/\fp.Nodup/\(∀a∈fp,H1 a=xn)/\Dl∉fp/\
   M8 pt1 tT (eMv fe) (js.map λj=>Z.getD j .none) (ds.drop i)=cz rs/\res=zs++rs/\ys.length=i/\∀(k:Nat) (x v:V),xs[k]?=cz x->ys[k]?=cz v->b4i H' x v) ?_ ?_ ?_ ?_
 ·exact⟨⟨xn,rfl⟩,f8,k8 hD _,[],[],res,l8,bD,λa ha=>(nomatch ha),λh=>(nomatch h),h2,rfl,rfl,λk x v _ h=>by simp at h⟩
 ·rintro i ys U' H' ⟨_,_,e,_⟩;exact qw H' (j9.trans e)
 ·rintro i x ys U' H' nJ ⟨⟨w0,rfl⟩,nR,e2,fp,zs,rs,gL,mw,lK,lF,hc,mr,qg,hT⟩;obtain⟨d,nO,_⟩:=hx.getV nJ;have mh:i<ds.length:=(aM.mp nO).1;have lV:ds.drop i=d::ds.drop (i+1):=by
   rw[dA mh]
   congr 1;exact (aM.mp nO).2
  rw[lV]at hc;obtain⟨bs,b,qV,jL,yY⟩:=a0A hc;cases qV
  cases jL
  obtain⟨_,y,rest,yX,vH,rfl⟩:=yY.resolve_right λz=>bU z.1.symm
  obtain⟨ed,we,rfl⟩:=a9W yX;have hfl:∀a∈Dl::fp,∃zs:MuO,H' a=cz zs.1:=λa ha=>by
   rcases aD.mp ha with z|z
   ·subst z;exact⟨⟨.lst ys,trivial⟩,nR⟩
   ·exact gL.lst (u:=.tp [.f,u]) (λv d f q=>q.lst _) a z
  have mP:∀a∈Dl::fp,H1 a=xn:=λa ha=>by
   rcases aD.mp ha with z|z
   ·subst z;exact hD
   ·exact lK a z
  have S1:StE X.K M Z U H' P (Dl::fp++F):=S.more (fp:=Dl::fp) e2 mP hfl;have wx:DenAll X.K (cut H' (Dl::fp++F)) xs ds:=hx.up (P7 (fp:=Dl::fp) e2 mP);obtain⟨d',qF,qE⟩:=wx.getV nJ;rw[nO]at qF;cases qF
  have SB:StE X.K (E1 (.own .f) 1 M js) ([d]++js.map λj=>Z.getD j .none) ([x].map cz++js.map λj=>(U[j]?).getD xn) H' P (Dl::fp++F):=
   a6D S1 (.inr rfl) (denAll_cons qE denAll_nil) (λe=>nomatch e) rfl rfl
  unfold D0 a3x;refine a5x ⟨x,rfl,_,P,_,ed,SB,we,λv H4 e4 ⟨gp,o,nd,fr⟩ t ht=>?_⟩;have AX:t≠Dl:=λz=>by rw[z,e4 _ _ nR]at ht;cases ht
  have wb:Dl∉gp:=λz=>by have w:=fr Dl z;rw[nR]at w;cases w
  have zq:∀a∈gp,a∉fp:=λa ha z=>by
   obtain⟨zs,w⟩:=hfl a (aw _ z);have w2:=fr a ha;rw[w]at w2;cases w2
  have jB:∀a,a∈Dl::(fp++gp)++F->a∈gp++(Dl::fp++F):=λa ha=>by
   simp only[bp,aD,ao]at ha ⊢;rcases ha with z|(z|z)|z
   ·exact .inr (.inl z)
   ·exact .inr (.inr (.inl z))
   ·exact .inl z
   ·exact .inr (.inr (.inr z))
  have vO:∀a,a∈gp++(Dl::fp++F)->∃zs:MuO,H4 a=cz zs.1:=λa ha=>by
   rcases ao.mp ha with z|z
   ·exact o.lst u a z
   ·obtain⟨zs,w⟩:=S1.lst a z;exact⟨zs,e4 _ _ w⟩
  have CY:t∉Dl::(fp++gp)++F:=λz=>by
   obtain⟨zs,w⟩:=vO t (jB t z);rw[ht]at w;cases w
  obtain⟨H5,wK⟩:∃H5,H5=upd (upd H4 t (.tup [x,v])) Dl (.lst (ys++[.ref t])):=⟨_,rfl⟩;have up:∀a ob,a≠Dl->H4 a=cz ob->H5 a=cz ob:=λa ob iU ha=>by
   rw[wK,c7 iU,c7 (λz=>by rw[z,ht]at ha;cases ha)];exact ha
  have zH:Same (cut H4 (gp++(Dl::fp++F))) (cut H5 (Dl::(fp++gp)++F)):=λa o' ha=>by
   obtain⟨n1,n2⟩:=m8 ha;exact i9 (λz=>n1 (jB a z)) (up a _ (λz=>n1 (by rw[z];exact ah _ (aj _ aL))) n2)
  have uL:Same (cut H' (Dl::fp++F)) (cut H5 (Dl::(fp++gp)++F)):=λa o' ha=>by
   obtain⟨n1,n2⟩:=m8 ha;refine i9 (λz=>?_) (up a _ (λz=>n1 (by rw[z];exact aj _ aL)) (e4 _ _ n2));rcases ao.mp (jB a z) with w|w
   ·have:=fr a w;rw[n2]at this;cases this
   ·exact n1 w
  have BC:H5 t=cz (.tup [x,v]):=by rw[wK,c7 AX,f8]
  have old:∀a∈fp,H5 a=H' a:=λa ha=>by
   obtain⟨zs,w⟩:=hfl a (aw _ ha);rw[w];exact up a _ (λz=>lF (z▸ha)) (e4 _ _ w)
  refine⟨by rw[c7 (cR AX)];exact e4 _ _ nR,?_,?_⟩
  ·exact fZ (cF (uh qg) (cF (eN mh) hz)) (by rw[cX];decide)
  rw[<-wK];refine⟨⟨_,rfl⟩,by rw[wK,f8],?_,fp++gp,zs++[.tuple [d,ed]],rest,?_,?_,?_,?_,vH,by rw[mr,aN];rfl,by rw[aA,qg];rfl,λk x' v' q1 q2=>?_⟩
  ·rw[wK];exact a2W (a2W (e2.trans e4) ((e2.trans e4).free ht) _) hD _
  ·refine (l5 uL gL old).append ?_;have:Own X.K H5 (Dl::(fp++gp)++F) (.tp [.f,u]) (.ref t) (.tuple [d,ed]) gp:=by
    simp only[Own];refine⟨t,_,_,rfl,BC,CY,rfl,?_⟩;simp only[OwnTs];refine⟨_,_,_,_,[],gp,rfl,rfl,rfl,⟨rfl,qE.up uL⟩,_,_,_,_,gp,[],rfl,rfl,by simp,?_,rfl,rfl,rfl⟩;exact o.frame zH u λa ha=>by
     obtain⟨zs,w⟩:=o.lst u a ha;rw[w];exact up a _ (λz=>wb (z▸ha)) w
   have:=k9 (R:=Own X.K H5 (Dl::(fp++gp)++F) (.tp [.f,u])) this l8
   rwa[bb]at this
  ·rw[bu];exact⟨mw,nd,λa ha b hb e=>zq b hb (e▸ha)⟩
  ·intro a ha;rcases ao.mp ha with z|z
   ·exact lK a z
   ·exact e2.free (fr a z)
  ·intro z;rcases ao.mp z with w|w
   ·exact lF w
   ·exact wb w
  ·rcases Nat.lt_trichotomy k i with c|c|c
   ·rw[dw (by lia)]at q2;obtain⟨tk,r,rfl,w⟩:=hT k x' v' q1 q2;exact⟨tk,r,rfl,up tk _ (λz=>by rw[z,nR]at w;cases w) (e4 _ _ w)⟩
   ·subst c;rw[nJ]at q1;cases q1
    rw[cu (by lia),qg,jE]at q2;cases q2
    exact⟨t,v,rfl,BC⟩
   ·rw[cu (by lia),iJ (by simp;lia)]at q2;cases q2
 ·rintro ys U' H' ⟨_,nR,e2,fp,zs,rs,gL,mw,lK,lF,hc,mr,qg,hT⟩;rw[om,gI]at hc;cases hc
  rw[bb]at mr;subst mr;exact q H' ys fp e2 nR gL mw lK lF qg hT
end
section
variable {K:ag}{H:Hp}{F:List av}{u:Ty}
def c0b(h:Own K H F (.l u) v (.list ds) fp):∃a xs fs,v=.ref a/\H a=cz (.lst xs)/\fp=a::fs/\ListAll (Own K H F u) xs ds fs:=by
 simp only[Own]at h;rcases h with⟨_,hi,_⟩|⟨a,xs,jC,fs,rfl,h1,h2,rfl,h3⟩
 ·simp only[imm]at hi;cases hi
 ·cases h2;exact⟨a,xs,fs,rfl,h1,rfl,h3⟩
def c0c(h:H a=cz (.lst xs))(q:ListAll (Own K H F u) xs ds fs):Own K H F (.l u) (.ref a) (.list ds) (a::fs):=by
 simp only[Own];exact .inr ⟨a,xs,ds,fs,rfl,h,rfl,rfl,q⟩
end
section
variable {X:Cx}{M:List Md}{t u:Ty}{e:Expr}{fe:EvE}{pos tp p2 p3 p4:fW}
def c0d(i:Nat)(hc:X.calm=yn)(hg:∀cl Cl s H fp,PG (B5 X ([y]++ys) scope cl Cl s H fp) (.Name y p3) (D0 0))(hy:∀cl Cl s H fp,PE (B5 X ([y]++ys) scope cl Cl s H fp) (.Name y p2) (b8m 0))
  (he:∀cl Cl s H fp,PX (B5 X ([y]++ys) scope cl Cl s H fp) (E1 (.own .f) 1 (M.map VS.frz) js) e fe (.new u))
  (hm:M[i]?=cz (.own (.l (.l t))):=by rfl) (hu:u.shut=yn:=by rfl) (C:K5 scope X.env.kindOf ys js X.N=yn:=by rfl) (hN:X.N[i]?=cz x:=by rfl) (hv:autoParam (Vis X.env.scope x) ZY._auto_1) (hd:autoParam ((x==("__debug__":bE))=yp) ZV._auto_1) (iC:autoParam ((x==("__classdict__":bE))=yp) ZV._auto_1)
  (hs:∀z,dM (.Name x p4) X.env z=pure z:=by intro _;rfl) (h2:∀env,au [e] env=(yp,cK e env)::au [] env:=by intro _;rfl) (h1:∀env,au [.Name y p2,e] env=(yp,cK (.Name y p2) env)::au [e] env:=by intro _;rfl) :
  PMX X M (.ListComp (.Tuple [.Name y p2,e] jj tp) [⟨.Name y p3,.Name x p4,[],0⟩] scope pos) (n9 (iL (a6 i)) js pt1 tT (eMv fe)) (.l (.tp [.l t,u])) (M.set i .dead):=by
 have Ew:∀cl Cl s H fp,PE (B5 X ([y]++ys) scope cl Cl s H fp) (.Tuple [.Name y p2,e] jj tp) (c0a X.K (E1 (.own .f) 1 (M.map VS.frz) js) fe u):=λcl Cl s0 H0 fp pins s U H Q I ⟨x,hx,Z,P,F,d,S,hf,k⟩=>
  a5s (l0 (hy cl Cl s0 H0 fp) (l0 (he cl Cl s0 H0 fp) p9 (h2 _)) (h1 _)) pins s U H Q I ⟨x,hx,Z,P,F,d,S,hf,λv H' e1 r=>⟨by rw[cX];show 2<=_;decide,k v H' e1 r⟩⟩
 refine⟨_,a2X (tn:=[y]) (ys:=ys) (js:=js) (tt:=a3x) (te:=c0a X.K (E1 (.own .f) 1 (M.map VS.frz) js) fe u) hc (a9r (y8 hN hv hd iC)) C hg (λ_ _ _ _ _=>a9O) Ew hs,λMp Zp Up Z U H P F d Q S hf k=>?_⟩;obtain⟨ds,h3,g1⟩:=bnd hf;by_cases hz:ds.length<=1000000
 ·rw[aB hz]at g1;obtain⟨res,h4,g2⟩:=bnd g1;cases g2
  have SE:=(Pend.e S).frz;obtain⟨l1,l2,S0⟩:=S;obtain⟨G,a1,a2,a3⟩:=S0.all;obtain⟨G1,G2,rfl,a4,a5⟩:=a1.splitAt l1 l2;obtain⟨dd,oo,f,pre,post,q1,q2,⟨v2,rfl,q3⟩,rfl,q5⟩:=a5.at_ hm;have qY:asL dd=cz ds:=by
   have h5:asL (Z.getD i .none)=cz ds:=h3
   rwa[A1 q1]at h5
  have zA:dd=.list ds:=by
   cases dd<;>first|(cases qY;rfl)|cases qY
  subst zA;obtain⟨b,xs,fs,rfl,r2,rfl,r6⟩:=c0b q3;refine⟨.ref b,q2,b,rfl,⟨xs,SqL.of r2⟩,λDl hD=>?_⟩;have uQ:Dl∉F:=λz=>by obtain⟨zs,w⟩:=S0.lst Dl z;rw[hD]at w;cases w
  refine a8C (F:=[]) SE a3f (λH2 e2=>SqL.of (e2 _ _ (i9 (by simp) r2))) ((r6.den (K:=X.K) (H:=H) λv d f o=>o.den).up λa ob ha=>i9 (by simp) ha) hz hD h4 λH' ws fp e2 nR gL mw lK lF qg hT=>?_
  have mP:∀a∈Dl::fp,H a=xn:=λa ha=>by
   rcases aD.mp ha with z|z
   ·subst z;exact hD
   ·exact lK a z
  have gQ:Same (cut H F) (cut H' (Dl::fp++F)):=P7 (fp:=Dl::fp) e2 mP;have keep:∀z∈F,H' z=H z:=λz hz=>by obtain⟨zs,w⟩:=S0.lst z hz;rw[w,e2 _ _ w]
  have vO:∀a∈Dl::fp++F,∃ys:MuO,H' a=cz ys.1:=λa ha=>by
   rcases ao.mp ha with z|z
   ·rcases aD.mp z with z|z
    ·subst z;exact⟨⟨.lst ws,trivial⟩,nR⟩
    ·exact gL.lst (u:=.tp [.f,u]) (λv d f q=>q.lst _) a z
   ·obtain⟨zs,w⟩:=S0.lst a z;exact⟨zs,e2 _ _ w⟩
  have qW:∀z∈fs,z∈F:=λz hz=>a3 z (by simp[hz])
  obtain⟨Gn,w1,w2⟩:=a7i (F:=Dl::fp++[]) (F':=Dl::fp++F) (t:=t) (u:=u) (λv d f o=>o.shut_out vO u hu) (λa zs ha mf=>by
   obtain⟨⟨ob,za⟩,w⟩:=vO a mf;rw[ha]at w;cases w
   exact za) (l5 gQ r6 λa ha=>keep a (qW a ha)) gL qg hT (a7j h4)
  have q:=q5 H' (Dl::fp++F) .dead (.list ds) (cz (.ref b)) [] (λz hz=>keep z (a3 z (by
   rcases ao.mp hz with y|y
   ·exact ah _ (aj _ y)
   ·exact ah _ (ah _ (ah _ y))))) gQ rfl
  rw[set_same q1,set_same q2]at q;have qj:=(a4.frame gQ λz hz=>keep z (a3 z (aj _ hz))).join (i7 (m:=.own (.l (.tp [.l t,u]))) (d:=.list res) (o:=cz (.ref Dl)) (f:=Dl::Gn) ⟨_,rfl,c0c nR w1⟩ q);have cn:∀z,Gn.count z=fs.count z+fp.count z:=λz=>by rw[w2.count_eq,bG]
  refine k (.ref Dl) H' (Dl::fp++F) e2 ⟨by simp[l1],by simp[l2],⟨⟨G1++(Dl::Gn++(pre++([]++post))),by simpa using qj,?_,λz hz=>?_⟩,vO,S0.prot.trans gQ⟩⟩
  ·refine du.mpr λz=>?_
   have c1:=du.mp a2 z;have c2:=du.mp mw z;have c3:=cn z;have zero:z∉F->(G1++(pre++(b::fs++post))).count z=0:=λh=>fB.mpr λy=>h (a3 z y)
   have c4:z∈fp->z∉F:=λh y=>by
    obtain⟨zs,w⟩:=S0.lst z y;rw[lK z h]at w;cases w
   by_cases hz:z=Dl
   ·subst hz;have y:=zero uQ;have y2:=fB.mpr lF;simp only[bG,bp,eF,bx,oM,nI]at c1 y ⊢;lia
   ·have qf:(Dl==z)=yp:=fS.mpr λe=>hz e.symm
    by_cases hp:z∈fp
    ·have y:=zero (c4 hp);simp only[bG,bp,eF,bx,qf,br,dh]at c1 y ⊢;lia
    ·have y2:=fB.mpr hp;simp only[bG,bp,eF,bx,qf,br,dh]at c1 ⊢;lia
  ·simp only[ao,aD,bp,bx]at hz ⊢;rcases hz with y|y|y|y|y
   ·exact .inr (.inr (a3 z (by simp[y])))
   ·exact .inl y
   ·rcases ao.mp (w2.mem_iff.mp y) with h|h
    ·exact .inr (.inr (qW z h))
    ·exact .inr (.inl h)
   ·exact .inr (.inr (a3 z (by simp[y])))
   ·exact .inr (.inr (a3 z (by simp[y])))
 ·rw[aJ hz]at g1;cases g1
end
section
variable {X:Cx}{M:List Md}{t:Ty}{fa fb:EvE}
def b4j{i:Nat}{us:List Ty}{u':Ty}{k:Nat}(h:us[k]?=cz (.l t))(Eb:∀Z,fb Z=cz (.int k)):TyAt (.l (.tp us)) (pIx i u' (pIx i u' p6 fa) fb) t:=λZ p d td h1 h2=>by
 obtain⟨p0,k1,g1⟩:=bnd h1;obtain⟨p1,m1,k1⟩:=bnd k1;cases m1
 obtain⟨Gi,_,k1⟩:=bnd k1;obtain⟨y0,_,k1⟩:=bnd k1;obtain⟨FG,_,k1⟩:=bnd k1;obtain⟨j0,_,k1⟩:=bnd k1;cases k1
 obtain⟨ds,k2,g2⟩:=bnd g1;obtain⟨y,k3,g3⟩:=bnd g2;rw[Eb Z]at k3;cases k3
 obtain⟨kk,k4,g4⟩:=bnd g3;cases k4
 obtain⟨j,k5,g5⟩:=bnd g4;cases g5
 have hj:j=k:=by
  unfold ixN at k5;rw[aB (by lia)]at k5
  split at k5
  ·have:=aH k5;lia
  ·cases k5
 subst hj;cases d with
 |list BI=>
  obtain⟨d0,z3,z4⟩:=bnd (show (BI[j0]?).bind (λd=>dAt (.tp us) d [j])=cz td from h2);cases d0 with
  |tuple es=>
   obtain⟨u1,z0,yc⟩:=bnd (show (us[j]?).bind (λu=>(es[j]?).bind λd=>dAt u d [])=cz td from z4);obtain⟨d1,z1,z2⟩:=bnd yc;rw[h]at z0;cases z0
   have yb:cz (Ty.l t,d1)=cz td:=z2;cases yb
   rfl
  |_=>cases z4
 |_=>cases h2
end
section
open PySem.SeqAt
open PySem.AutoSeq1 (wpAny_loadPart')
open PySem.MeetsSeq PySem.MeetsSeq2 PySem.MeetsSeq3
open PyProof.Rows (IntsAre)
def a1H{items:Array ak}(a:IntsAre (items.toList.drop i) (n::ns)):∃t,items[((i:Nat):Int).toNat]?=cz (.int n t)/\IntsAre (items.toList.drop (i+1)) ns:=by
 generalize e:items.toList.drop i=L at a;cases a with
 |cons _ t a=>exact⟨t,by have h:=dE (λl:List ak=>l[0]?) e;rw[Am]at h;simpa using h,by rw[<-List.tail_drop,e];exact a⟩
theorem a7k(l b:av)(items e_:Array ak)(n n2:Nat)(dd oK:Option av)(sl oB:Array (Option ak)):∀(ns ms:List Int) (i:Nat),items.size=i+ns.length->e_.size=i+ms.length->IntsAre (items.toList.drop i) ns->IntsAre (e_.toList.drop i) ms->Meets (Builtin.«list.__eq__.loop» ⟨[.ref l,.ref b,iB i,iB 1],[]⟩)
   (λA R s=>s.heap.get? l=cz {cls:=.type "list",dict:=dd,data:=.seq items n,slots:=sl}/\s.heap.get? b=cz {cls:=.type "list",dict:=oK,data:=.seq e_ n2,slots:=oB}/\R (.ok (.ret (.bool !q9 ms ns))) s)
 |[],ms,i,z1,z2,a1,a2,prog,w,A,R,s,h=>by
  obtain⟨hp,g,d,tk,os⟩:=s;obtain⟨hl,hb,h⟩:=h;rw[show (!q9 ms [])=decide (items.size<=e_.size) by cases ms<;>simp[q9,z1,z2]]at h
  wp_walk using wpAny_loadPart' hl,wpAny_loadPart' hb
  rw[show items[((i:Nat):Int).toNat]?=xn by simp[z1]]
  wp_walk using wpAny_loadPart' hl,wpAny_loadPart' hb
  exact h
 |x::ns,[],i,z1,z2,a1,a2,prog,w,A,R,s,h=>by
  obtain⟨hp,g,d,tk,os⟩:=s;obtain⟨hl,hb,h⟩:=h;rw[show (!q9 [] (x::ns))=decide (items.size<=e_.size) by simp[q9,z1,z2]]at h;obtain⟨t,e1,_⟩:=a1H a1
  wp_walk using wpAny_loadPart' hl,wpAny_loadPart' hb
  rw[e1,show e_[((i:Nat):Int).toNat]?=xn by simp[z2]]
  wp_walk using wpAny_loadPart' hl,wpAny_loadPart' hb
  exact h
 |x::ns,y::ms,i,z1,z2,a1,a2,prog,w,A,R,s,h=>by
  obtain⟨hp,g,d,tk,os⟩:=s;obtain⟨hl,hb,h⟩:=h;obtain⟨t,e1,a1⟩:=a1H a1;obtain⟨u,e2,a2⟩:=a1H a2;rw[aS]at z1 z2
  wp_walk using wpAny_loadPart' hl,wpAny_loadPart' hb
  rw[e1,e2];refine ae (lQ ?_);rw[q9]at h;by_cases c:x=y
  ·rw[aB c.symm]at h;rw[show (x==y)=yn by simp[c]]
   wp_walk
   rw[show ((i:Int)+1)=((i+1:Nat):Int) by push_cast;rfl];exact⟨ig xm _,mT entry_eq_loop (by
    rw[jW xm _];exact a7k l b items e_ n n2 dd oK sl oB ns ms (i+1) (by lia) (by lia) a1 a2 prog w A R _ ⟨hl,hb,h⟩)⟩
  ·rw[aJ (cR c),show (!decide (y<x))=decide (x<=y) by by_cases q:y<x<;>simp[q]<;>lia]at h;rw[show (x==y)=yp by simp[c]];have tH:∀(E:ak->ar->Prop) (Q:ak->ar->Prop),Q (.bool (decide (x<=y))) ⟨hp,g,d,tk,os⟩->aX (aV prog w) A.in1 (nF .LtE (.int x t) (.int y u)) Q E ⟨hp,g,d,tk,os⟩:=λE Q h=>(xV h:aX (aV prog w) A.in1 (cC .LtE (.int x t) (.int y u)) Q E _)
   wp_walk using wpAny_loadPart' hl,wpAny_loadPart' hb
   rw[e1,e2]
   wp_walk using tH
   exact h
def b4k(l b:av)(items e_:Array ak)(n n2:Nat)(dd oK:Option av)(sl oB:Array (Option ak))(a1:IntsAre items.toList ns)(a2:IntsAre e_.toList ms):Meets (Builtin.«list.__le__» ⟨[.ref l,.ref b],[]⟩)
   (λA R s=>s.heap.get? l=cz {cls:=.type "list",dict:=dd,data:=.seq items n,slots:=sl}/\s.heap.get? b=cz {cls:=.type "list",dict:=oK,data:=.seq e_ n2,slots:=oB}/\R (.ok (.ret (.bool !q9 ms ns))) s):=by
 intro prog w A R s h;obtain⟨hp,g,d,tk,os⟩:=s;obtain⟨hl,hb,h⟩:=h;have f3:=AutoSeq1.sub_list_list
 wp_walk using wpAny_loadPart' hl,wpAny_loadPart' hb
 exact⟨ig xm _,mT entry_eq_loop (by
  rw[jW xm _];exact a7k l b items e_ n n2 dd oK sl oB ns ms 0 (by simpa using a2h a1) (by simpa using a2h a2) a1 a2 prog w A R _ ⟨hl,hb,h⟩)⟩
def b4l(l b:av)(n n2:Nat)(dd oK:Option av)(sl oB:Array (Option ak))(e r:Bool):Meets (Builtin.«tuple.__le__» ⟨[.ref l,.ref b],[]⟩)
   (λA R s=>s.heap.get? l=cz {cls:=.type "tuple",dict:=dd,data:=.seq #[.int a t,x] n,slots:=sl}/\s.heap.get? b=cz {cls:=.type "tuple",dict:=oK,data:=.seq #[.int c u,y] n2,slots:=oB}/\EqAt A.in1 s x y e/\
    (∀(prog:bB) (w:bZ) (E:ak->ar->Prop) (Q:ak->ar->Prop),Q (.bool r) s->aX (aV prog w) A.in1 (nF .LtE x y) Q E s)/\R (.ok (.ret (.bool (if a=c then e||r else decide (a<=c))))) s):=
 .of_wp λprog w A R s h=>by
  obtain⟨hp,g,d,tk,os⟩:=s;obtain⟨hl,hb,he,ho,h⟩:=h;have f2:=Ap
  wp_walk using wpAny_loadPart' hl,wpAny_loadPart' hb,rA _ (λrest b s'=>b.1=xn/\s'=⟨hp,g,d,tk,os⟩/\(rest=[(g_ a t,g_ c u),(x,y)]\/rest=[(x,y)]/\a=c\/rest=[]/\a=c/\e=yn)) _
  case turn=>
   rintro p rest b s' ⟨q_,rfl,z|⟨z,q⟩|⟨z,_⟩⟩
   ·cases z
    refine ae (lQ ?_);by_cases q:a=c
    ·rw[show (a==c)=yn by simp[q]]
     wp_walk
     exact⟨rfl,rfl,.inr (.inl ⟨rfl,q⟩)⟩
    ·rw[show (a==c)=yp by simp[q]];rw[aJ q]at h;have tH:∀(E:ak->ar->Prop) (Q:ak->ar->Prop),Q (.bool (decide (a<=c))) ⟨hp,g,d,tk,os⟩->aX (aV prog w) A.in1 (nF .LtE (.int a t) (.int c u)) Q E ⟨hp,g,d,tk,os⟩:=λE Q h=>(xV h:aX (aV prog w) A.in1 (cC .LtE (.int a t) (.int c u)) Q E _)
     wp_walk using tH
     exact⟨_,rfl,by simpa using h⟩
   ·cases z
    refine ae (he prog w _ _ ?_);rw[aB q]at h;cases e with
    |true=>
     wp_walk
     exact⟨rfl,rfl,.inr (.inr ⟨rfl,q,rfl⟩)⟩
    |false=>
     have tH:=ho prog w
     wp_walk using tH
     exact⟨_,rfl,by simpa using h⟩
   ·cases z
  case fin=>
   rintro⟨b1,b2⟩ s' ⟨q_,rfl,z|⟨z,_⟩|⟨_,q,rfl⟩⟩
   ·cases z
   ·cases z
   simp only at q_;subst q_;rw[aB q]at h
   wp_walk
   exact⟨_,rfl,by simpa[rq]using h⟩
  case h=>exact⟨rfl,rfl,.inl rfl⟩
end
def rkI:D->Option (Int×List Int)
 |.tuple [.int a,.list ds]=>(intsOf ds).map λns=>(a,ns)
 |_=>xn
def a7l(h:rkI d=cz p):d=.tuple [.int p.1,sqD yn p.2]:=by
 unfold rkI at h
 split at h
 ·obtain⟨ns,h1,rfl⟩:=eu.mp h;rw[C7 h1];rfl
 ·cases h
def a8D(x y:D):Option D:=(rkI x).bind λp=>(rkI y).bind λq=>cz (.bool !q9 (q.1::q.2) (p.1::p.2))
def a7m{ns:List Int}(r:Reads h v (.tuple [.int a,.list (ns.map .int)]) as):∃l n dd sl t x bs,v=.ref l/\h.get? l=cz {cls:=.type "tuple",dict:=dd,data:=.seq #[.int a t,x] n,slots:=sl}/\Reads h x (.list (ns.map .int)) bs:=by
 cases r with
 |@tuple l o us n _ fa c1 c2 c3 c4=>
  obtain⟨cls,dd,data,sl⟩:=o;simp only at c2 c3;subst c2 c3;obtain⟨us⟩:=us;cases c4 with
  |cons r1 r2=>
   cases r1
   cases r2 with
   |cons r3 r4=>
    cases r4
    exact⟨l,n,dd,sl,_,_,_,rfl,c1,r3⟩
def c0e{X:Cx}(hu:X.A.units+64<dQ):OpS X (cC .LtE) a8D:=by
 refine⟨λx y H Q=>∃p q:Int×List Int,Den X.K H x (.tuple [.int p.1,.list (p.2.map .int)])/\Den X.K H y (.tuple [.int q.1,.list (q.2.map .int)])/\Q (.bl !q9 (q.1::q.2) (p.1::p.2)) H,?_,λx y H a b d Q ha hb hg q=>?_⟩
 ·intro pins s U H x y v u Q I rx ry h;obtain⟨⟨a,ns⟩,⟨c,ms⟩,h1,h2,q⟩:=h;have lay:∀(a:Int) (ns:List Int),(cI [.int a,.list (ns.map .int)]).canLay0=yn:=λa ns=>by simp only[cE,aY,b3T ns,er]
  obtain⟨as,ra⟩:=Den.reads I _ (lay a ns) h1 rx;obtain⟨bs,rb⟩:=Den.reads I _ (lay c ms) h2 ry;obtain⟨l,n,dd,sl,t,x1,b1,rfl,g1,r1⟩:=a7m ra;obtain⟨l2,n2,oK,oB,t2,x2,b2,rfl,g2,r2⟩:=a7m rb;have ll:∀ns:List Int,(b_ (ns.map .int)).canLay0=yn:=λns=>by simp only[cE,b3T ns]
  have hq:SeqAt.EqAt X.A.in1 s x1 x2 (decide (ns=ms)):=by
   have:=lY _ _ X.A.in1 s _ _ _ _ r1 r2 (ll ns) (ll ms) (by simp only[dN,b9T];show X.A.units+1+_<_;lia)
   rwa[show aF (.list (ns.map .int)) (.list (ms.map .int))=decide (ns=ms) by simp only[aF];exact eqI ns ms]at this
  have hr:∀(prog:bB) (w:bZ) (E:ak->ar->Prop) (Q:ak->ar->Prop),Q (.bool !q9 ms ns) s->aX (aV prog w) X.A.in1 (nF .LtE x1 x2) Q E s:=λprog w E Q h=>by
   cases r1 with
   |@list la oa us na _ fa c1 c2 c3 c4=>
    cases r2 with
    |@list lb ob ws nb _ fb e1 e2 e3 e4=>
     obtain⟨cls,dd,data,sl⟩:=oa;obtain⟨Ab,oK,data2,oB⟩:=ob;simp only at c2 c3 e2 e3;subst c2 c3 e2 e3;exact ml (op:=.LtE) ⟨_,c1,rfl⟩ ⟨_,e1,rfl⟩ F.slot_list_le F.entry_list_le (F.args_list_le_2 _ _) (b4k la lb us ws na nb dd oK sl oB (T9 c4) (T9 e4))
      ⟨c1,e1,(λx=>nomatch x),h⟩ (by show X.A.units+1<_;lia)
  refine ml (op:=.LtE) ⟨_,g1,rfl⟩ ⟨_,g2,rfl⟩ F.slot_tuple_le F.entry_tuple_le (F.args_tuple_le_2 _ _) (b4l l l2 n n2 dd oK sl oB (decide (ns=ms)) (!q9 ms ns)) ⟨g1,g2,hq,hr,(λx=>nomatch x),.bl _,H,I,?_,q⟩ (by lia);rw[show (if a=c then decide (ns=ms)||!q9 ms ns else decide (a<=c))=!q9 (c::ms) (a::ns) by
   rw[q9];by_cases z:a=c
   ·rw[aB z,aB z.symm];by_cases e:ns=ms
    ·rw[e,X5];simp
    ·simp[e]
   ·rw[aJ z,aJ (cR z)];by_cases e:c<a<;>simp[e]<;>lia]
  rfl
 ·obtain⟨p,h1,hg⟩:=bnd hg;obtain⟨r,h2,hg⟩:=bnd hg;cases hg
  exact⟨p,r,a7l h1▸ha,a7l h2▸hb,q _ (by simp only[imm]) λ_=>den_bool⟩
end VS
namespace L2
open PySem
def Has.u(h:Has P w K mg base x i ps sp)(l:autoParam (i<=j) ZV._auto_1):Has P w K mg base x j ps sp:=h.up l
end L2
namespace VS
open PySem PySem.Spec PyProof.Rows L2
structure DP (K:ag) (mg:bE->Option ak) (x:bE) (st:iE):Prop where
 ex:∃f fd,Fun K x x st f fd/\gG K bV x=cz (cz (.ref f))/\mg x=cz (.ref f)
section
variable {P:bB}{w:bZ}{K:ag}{mg:bE->Option ak}{base h:cS}{x:bE}{st:iE}{N ps:List bE}{k n:Nat}{us:List Ty}{u wt:Ty}{g:EvS}{sp:Sp}
def c1O{f:av}{oc:ak}{od an:Option av}{pF:Array (Option ak)}{kV doc pm gz ct:ak}(X:K.In h)(G:h.Ns bV mg)(a:gG K bV x=cz (cz (.ref f)))(l:K.lookup f=cz ⟨oc,od,.func (fX x x (S6 st) (v7 st) (g8 st) .none kV doc pm an gz ct),pF⟩)
  (c:lZ K gz x=yn) (k:fU K (.ref f)=yn):DP K mg x st:=⟨_,_,b8Q l c k,a,kz X G a⟩
def c3j(X:K.In h)(G:h.Ns bV mg)(a:gG K bV x=cz (cz (.int i t))):∃t,mg x=cz (.int i t):=⟨t,kz X G a⟩
abbrev BBy(x:bE)(st:iE)(ps:List bE):Prop:=∀(kV doc pm:ak) (an:Option av) (gz ct:ak) (us:List ak),us.length=ps.length->qM (fX x x (S6 st) (v7 st) (g8 st) .none kV doc pm an gz ct) ⟨us,[]⟩=pure (ps.zip us)
def m9(d:DP K mg x st)(h:∀f fd,Fun K x x st f fd->FnOk P w K mg base CX0 k f fd ps sp)(b:BBy x st ps:=by intro _ _ _ _ _ _ us hl;first|(obtain⟨_,rfl⟩:=b9Q hl;rfl)|(obtain⟨_,_,rfl⟩:=b9R hl;rfl)|(obtain⟨_,_,_,rfl⟩:=c1L hl;rfl)|(obtain⟨_,_,_,_,rfl⟩:=c3g hl;rfl)|(obtain⟨_,_,_,_,_,rfl⟩:=c3h hl;rfl)|(obtain⟨_,_,_,_,_,_,rfl⟩:=c3i hl;rfl)):Has P w K mg base x k ps sp:=by
 obtain⟨f,fd,F,a,m⟩:=d.ex;exact⟨f,fd,h f fd F,F.binds b,F.kp,m⟩
def b6Y(d:DP K mg x st)(h:∀f fd,Fun K x x st f fd->gG K bV x=cz (cz (.ref f))->FnOk P w K mg base CX0 k f fd ps sp)(b:BBy x st ps:=by intro _ _ _ _ _ _ us hl;first|(obtain⟨_,rfl⟩:=b9Q hl;rfl)|(obtain⟨_,_,rfl⟩:=b9R hl;rfl)|(obtain⟨_,_,_,rfl⟩:=c1L hl;rfl)):Has P w K mg base x k ps sp:=by
 obtain⟨f,fd,F,a,m⟩:=d.ex;exact⟨f,fd,h f fd F a,F.binds b,F.kp,m⟩
def fnF(F:Fun K x x st f fd)(N:List bE)(hb:∀(S:FnScope N ps (g8 st)) (gz:ak) (A:bS) (outer:List oQ) (s:ar) (H:Hp) (E:XK),Room k (A.deeper (jv x (g8 st) s.heap.objs.size f gz))->PSsX (a0M CX0 P w K mg base N x (g8 st) f gz A outer s H E).nox u [] (us.map .own++aT n .dead) (v7 st) g [])
  (S:FnScope N ps (g8 st):=by exact⟨rfl,rfl,rfl,by decide +kernel,rfl,by decide +kernel,by decide +kernel⟩) (oE:us.length=ps.length:=by rfl) (hn:N.length=ps.length+n:=by rfl):FnOk P w K mg base CX0 (k+1) f fd ps (spD K ps.length (fnD us n g) u):=b6j F S oE hn (hb S)
def c3k(F:Fun K x x st f fd)(N:List bE)(M':List Md)(hb:∀(S:FnScope N ps (g8 st)) (gz:ak) (A:bS) (outer:List oQ) (s:ar) (H:Hp) (E:XK),Room k (A.deeper (jv x (g8 st) s.heap.objs.size f gz))->PSsX (a0M CX0 P w K mg base N x (g8 st) f gz A outer s H E).nox .i [] (us.map .own++aT n .dead) (v7 st) g M')
  (S:FnScope N ps (g8 st):=by exact⟨rfl,rfl,rfl,by decide +kernel,rfl,by decide +kernel,by decide +kernel⟩) (oE:us.length=ps.length:=by rfl) (hn:N.length=ps.length+n:=by rfl):FnOk P w K mg base CX0 (k+1) f fd ps (spD K ps.length (fnN us n g) .i):=b3p F S oE hn (hb S)
def c3l{Φ:(List D->Option D)->Hp->V->Prop}{g:(List D->Option D)->EvS}(F:Fun K x x st f fd)(N:List bE)(hb:∀(S:FnScope N ps (g8 st)) (gm:List D->Option D) (gz:ak) (A:bS) (outer:List oQ) (s:ar) (H:Hp) (E:XK),Room k (A.deeper (jv x (g8 st) s.heap.objs.size f gz))->PSsX (a0M CX0 P w K mg base N x (g8 st) f gz A outer s H E).nox u [] (us.map .own++(.fn (Φ gm)::aT n .dead)) (v7 st) (g gm) [])
  (S:FnScope N ps (g8 st):=by exact⟨rfl,rfl,rfl,by decide +kernel,rfl,by decide +kernel,by decide +kernel⟩) (oE:us.length+1=ps.length:=by rfl) (hn:N.length=ps.length+n:=by rfl) (hj:j=us.length:=by rfl):FnOk P w K mg base CX0 (k+1) f fd ps (spL K j Φ (fnL us n g) u):=hj▸b4b (M':=λ_=>[]) F S oE hn (hb S)
def c3m(F:Fun K x x st f fd)(N:List bE)(lt:(B0 K x).isSome=yn)(X:K.In base)(G:base.Ns bV mg)(a:gG K bV x=cz (cz (.ref f)))(hb:∀(S:FnScope N ps (g8 st)) (c:av) (p:av) (hc:fd.code=.ref c) (hp:B0 K x=cz p) (hd:gD base c p) (A:bS) (outer:List oQ) (s:ar) (H:Hp) (E:XK),Room k (A.deeper (jv x (g8 st) s.heap.objs.size f fd.code))->PSsX (a0M CX0 P w K mg base N x (g8 st) f fd.code A outer s H E).nox u [] (us.map .own++aT n .dead) (v7 st) g [])
  (S:FnScope N ps (g8 st):=by exact⟨rfl,rfl,rfl,by decide +kernel,rfl,by decide +kernel,by decide +kernel⟩) (oE:us.length=ps.length:=by rfl) (hn:N.length=ps.length+n:=by rfl):FnOk P w K mg base CX0 (k+1) f fd ps (spD K ps.length (fnD us n g) u):=by
 obtain⟨oc,od,kV,doc,pm,an,gz,ct,pF,e,lk,iC⟩:=F.ex;obtain⟨c,p,h1,h2,h3⟩:=b4h lt X G a lk;exact b4g F S oE hn (hb S c p h1 h2 h3)
def c0f(zu:mg x=cz (.ref fa))(d:DP K mg x st)(h:∀base:cS,K.In base->base.Ns bV mg->∀fd,Fun K x x st fa fd->FnOk P w K mg base CX0 k fa fd [p] sp)(b:∀(kV doc pm:ak) (an:Option av) (gz ct v:ak),qM (fX x x (S6 st) (v7 st) (g8 st) .none kV doc pm an gz ct) ⟨[v],[]⟩=pure [(p,v)]:=by intros;rfl) :
  ∃fd:dS,(∀(s:ar) (v:ak),ox s fd ⟨[v],[]⟩ [(p,v)])/\∀base:cS,K.In base->base.Ns bV mg->FnOk P w K mg base CX0 k fa fd [p] sp:=by
 obtain⟨f,fd,F,a,m⟩:=d.ex;rw[zu]at m;cases m
 refine⟨fd,λs v=>?_,λbase X G=>h base X G fd F⟩;obtain⟨oc,od,kV,doc,pm,an,gz,ct,pF,rfl,lk,iC⟩:=F.ex;exact .of_eq (b kV doc pm an gz ct v)
end
section
variable {X:Cx}{M:List Md}{e e0:Expr}{es:List Expr}{fe:EvE}{f:EvA}{c:Cat}{u:Ty}{pos p:fW}{x:bE}
abbrev mdF:Md:=.own .f
abbrev mdI:Md:=.own .i
abbrev mdL:Md:=.own (.l .i)
abbrev mdD:Md:=.dead
def b9(i:Nat)(hN:X.N[i]?=cz x:=by rfl)(hv:autoParam (Vis X.env.scope x) ZY._auto_1)(hd:autoParam ((x==("__debug__":bE))=yp) ZV._auto_1)(iC:autoParam ((x==("__classdict__":bE))=yp) ZV._auto_1)(hm:M[i]?=cz (.own .f):=by rfl):PX X M (.Name x pos) (a6 i) (.bor .f):=n6 i hN hv hd iC hm
def e7(i:Nat)(hN:X.N[i]?=cz x:=by rfl)(hv:autoParam (Vis X.env.scope x) ZY._auto_1)(hd:autoParam ((x==("__debug__":bE))=yp) ZV._auto_1)(iC:autoParam ((x==("__classdict__":bE))=yp) ZV._auto_1)(hm:M[i]?=cz (.own .i):=by rfl):PX X M (.Name x pos) (a6 i) (.bor .i):=n6 i hN hv hd iC hm
def b4m(i:Nat)(hN:X.N[i]?=cz x:=by rfl)(hv:autoParam (Vis X.env.scope x) ZY._auto_1)(hd:autoParam ((x==("__debug__":bE))=yp) ZV._auto_1)(iC:autoParam ((x==("__classdict__":bE))=yp) ZV._auto_1)(hm:M[i]?=cz (.own (.l .i)):=by rfl):PX X M (.Name x pos) (a6 i) (.bor (.l .i)):=n6 i hN hv hd iC hm
def y9(i:Nat)(hN:X.N.Nodup)(hi:X.N[i]?=cz x:=by rfl)(hx:autoParam (Loc X.env.scope x) ZX._auto_1)(hf:autoParam (X.fn x=yn\/X.env.scope.names.lookup x=cz .local) ZZ._auto_1):PG X (.Name x pos) (D0 i):=o6 hN hi hx hf
def w6(hm:X.mg "len"=xn)(h:PX X M e fe c)(hg:Gl X "len":=by rfl)(he:au [e] X.env=(yp,cK e X.env)::au [] X.env:=by rfl)(gT:(cM pos (au [] X.env)).any (·.1)=yp:=by rfl):PX X M (.Call (.Name "len" p) [e] [] pos) (eCl B8 (a7 fe c6)) (.new .i):=T0 b8W hm PySem.boot_len (a8 h c8 he) hg (by decide) (by decide) he gT
def m4(W:Has X.prog X.w X.K X.mg X.base x k ps (spD X.K n m u))(hr:Room k X.A)(h:PAX X M (e0::es) f)(hu:u.shut=yn:=by rfl)(hl:(e0::es).length=n:=by rfl)(hfl:∀Z ds,f Z=cz ds->ds.length=(e0::es).length:=by first|exact m7 K2|exact m7 (m7 K2)|exact m7 (m7 (m7 K2))|exact m7 (m7 (m7 (m7 K2)))|exact m7 (m7 (m7 (m7 (m7 K2)))))
  (hg:Gl X x:=by rfl) (mB:autoParam ((x==("__debug__":bE))=yp) ZV._auto_1) (he:au (e0::es) X.env=(yp,cK e0 X.env)::au es X.env:=by rfl) (gT:(cM pos (au es X.env)).any (·.1)=yp:=by rfl) :
  PX X M (.Call (.Name x p) (e0::es) [] pos) (eCl m f) (.new u):=a0U W hr h hu hl hfl hg mB he gT
def X7(hu:X.A.units+64<dQ:=by exact Room.units (by assumption)):OpS X (cC .Eq) dEq:=os_eq hu
def a3H(hu:X.A.units+64<dQ:=by exact Room.units (by assumption)):OpS X (cC .NotEq) dNe:=c1f hu
end
end VS
namespace VS
open PySem L2
section
variable {a b c:EvE}{Z:List D}{d x y:D}
def chE(g':D->D->Option D):Option D->Option D->EvE->List D->Option D
 |some (.bool yn),cz y,c,Z=>l2 g' (cz y) (c Z)
 |some (.bool yp),cz _,_,_=>cz (.bool yp)
 |_,_,_,_=>xn
def c3n:eCh g g' a b c Z=chE g' (l2 g (a Z) (b Z)) (b Z) c Z:=by
 unfold eCh;cases a Z with
 |none=>rfl
 |some x=>
  cases b Z with
  |none=>rfl
  |some y=>
   show (g x y).bind _=chE g' (g x y) (cz y) c Z;cases g x y with
   |none=>rfl
   |some z=>
    cases z with
    |bool k=>
     cases k with
     |false=>rfl
     |true=>cases h:c Z<;>simp[chE,asB,h,l2]
    |_=>rfl
def c1P:chE g' (cz (.bool yn)) (cz y) c Z=l2 g' (cz y) (c Z):=rfl
def c1Q:chE g' (cz (.bool yp)) (cz y) c Z=cz (.bool yp):=rfl
def c3o:(yn==yn)=yn:=rfl
def c3p:(yn==yp)=yp:=rfl
def c3q:(yp==yn)=yp:=rfl
def c3r:(yp==yp)=yn:=rfl
def c3s:(yn !=yn)=yp:=rfl
def c3t:(yn !=yp)=yn:=rfl
def c3u:(yp !=yn)=yn:=rfl
def c3v:(yp !=yp)=yp:=rfl
def trB:tr (.bool k)=cz k:=rfl
def c1R:asB (.bool k)=cz k:=rfl
def b4n:isN .none=yn:=rfl
def b6Z:isN (.int i)=yp:=rfl
def b4o:isN (.bool i)=yp:=rfl
def b4p:isN (.list ds)=yp:=rfl
def b7a:isN (.tuple ds)=yp:=rfl
def c0g:a7W k x .none=cz (.bool (k !=isN x)):=rfl
def b1X:isInt (.int i)=yn:=rfl
def a8E:isInt (.bool i)=yn:=rfl
def a8F:isInt .none=yp:=rfl
def a8G:isInt (.list ds)=yp:=rfl
def b1Y:isInt (.tuple ds)=yp:=rfl
def b1Z:isInt (.str s)=yp:=rfl
def a8H:isInt (.dict s)=yp:=rfl
def a8I:isBool (.int i)=yp:=rfl
def a7n:isBool (.bool i)=yn:=rfl
def a7o:isBool .none=yp:=rfl
def a7p:isBool (.list ds)=yp:=rfl
def a8J:isBool (.tuple ds)=yp:=rfl
def a8K:isBool (.str s)=yp:=rfl
def a7q:isBool (.dict s)=yp:=rfl
def isList_list:isList (.list ds)=yn:=rfl
def isList_int:isList (.int i)=yp:=rfl
def a7r:isList .none=yp:=rfl
def isList_bool:isList (.bool i)=yp:=rfl
def a8L:isList (.tuple ds)=yp:=rfl
def isList_str:isList (.str s)=yp:=rfl
def isList_dict:isList (.dict s)=yp:=rfl
def a7s:Z3 (.tuple ds)=yn:=rfl
def isTuple_list:Z3 (.list ds)=yp:=rfl
def isTuple_int:Z3 (.int i)=yp:=rfl
def lIs:Option D->Option D
 |some d=>b3c d
 |none=>xn
def a5a:eI a Z=lIs (a Z):=by unfold eI;cases a Z<;>rfl
def a9X(h:c9 ds=yn):lIs (cz (.list ds))=cz (.list ds):=by
 show (if c9 ds=yn then cz (b_ ds) else xn)=_;rw[aB h]
def b4q:Option D->Option D
 |some (.list ds)=>cz (.list ds)
 |some (.tuple ds)=>cz (.list ds)
 |_=>xn
def a9Y:D9 a Z=b4q (a Z):=by
 unfold D9;cases a Z with
 |none=>rfl
 |some d=>cases d<;>rfl
def c1S:b4q (cz (.list ds))=cz (.list ds):=rfl
def c1T:b4q (cz (.tuple ds))=cz (.list ds):=rfl
def lL:Option D->Option (List D)
 |some d=>asL d
 |none=>xn
def b2a:iL a Z=lL (a Z):=by unfold iL;cases a Z<;>rfl
def c3w:lL (cz (.list ds))=cz ds:=rfl
def lII:Option (List D)->Option (List D)
 |some ds=>if c9 ds then cz ds else xn
 |none=>xn
def c1U:iI f Z=lII (f Z):=by unfold iI;cases f Z<;>rfl
def a1f(h:f Z=cz ds)(hi:c9 ds=yn):iI f Z=cz ds:=by rw[c1U,h];show (if c9 ds=yn then cz ds else xn)=_;rw[aB hi]
def a8M{ds:List D}(h:ds.length<1000000):b9A i (.list ds) (cz d) Z=cz (.nx (Z.set i (.list (ds++[d])))):=a1z h
def c0h:r9 i Z d=cz (Z.set i d):=rfl
def c0i:a3h i j Z (.tuple [x,y])=cz ((Z.set i x).set j y):=rfl
def c1V:pt1 d=cz [d]:=rfl
def c1W:pt2 (.tuple [x,y])=cz [x,y]:=rfl
def c3x:tT Z=cz yn:=rfl
end
def E7(P:List D->Prop)(h1:∃Z,o=cz (.nx Z)/\P Z)(h2:∀Z,P Z->a1x (s Z)=R):a1x (thn o s)=R:=by
 obtain⟨Z,rfl,h⟩:=h1;exact h2 Z h
def b4r(P:List D->Prop)(h1:∃Z,o=cz (.nx Z)/\P Z)(h2:∀Z,P Z->s Z=R):thn o s=R:=by
 obtain⟨Z,rfl,h⟩:=h1;exact h2 Z h
def X8{R:Option D->Prop}(P:List D->Prop)(h1:∃Z,o=cz (.nx Z)/\P Z)(h2:∀Z,P Z->R (a1x (s Z))):R (a1x (thn o s)):=by
 obtain⟨Z,rfl,h⟩:=h1;exact h2 Z h
theorem a7t(f:D->D):∀{ds:List D},(∀d∈ds,∃bs,pt d=cz bs/\g (bs++cs)=cz (f d))->M8 pt tT g cs ds=cz (ds.map f)
 |[],_=>rfl
 |d::ds,h=>by
  obtain⟨bs,h1,h2⟩:=h d aL;have ih:=a7t f (ds:=ds) λe he=>h e (aw _ he)
  show (pt d).bind _=_;rw[h1];show (g (bs++cs)).bind _=_;rw[h2];show (M8 pt tT g cs ds).bind _=_;rw[ih];rfl
def a3I{js:List Nat}{Z ds:List D}(f:D->D)(hf:fi Z=cz ds)(hl:ds.length<=1000000)(h:∀d∈ds,∃bs,pt d=cz bs/\g (bs++js.map λj=>Z.getD j .none)=cz (f d)) :
  n9 fi js pt tT g Z=cz (.list (ds.map f)):=by
 unfold n9;rw[hf];show (if ds.length<=1000000 then _ else xn)=_;rw[aB hl,a7t f h];rfl
def a5U{js:List Nat}{Z:List D}(f:Nat->D)(ha:a Z=cz (.int n))(h0:0<=n)(h1:n<=1000000)(h:∀k:Nat,(k:Int)<n->g (.int k::js.map λj=>Z.getD j .none)=cz (f k)) :
  n9 (iR a) js pt1 tT g Z=cz (.list ((az n.toNat).map f)):=by
 rw[a3I (ds:=l7 0 n.toNat) (λd=>match d with|.int i=>f i.toNat|_=>.none) (b1k ha h0 (by lia)) (by rw[a8h];lia)]
 ·unfold l7;rw[bC]
  congr 2;refine bH λk _=>?_
  show f (0+(k:Int)).toNat=f k
  congr 1;lia
 ·intro d hd;unfold l7 at hd;obtain⟨k,hk,rfl⟩:=aI.mp hd;have:=bT.mp hk;refine⟨_,rfl,?_⟩;have e:(0:Int)+(k:Int)=k:=by lia
  rw[e];exact h k (by lia)
theorem m6(f:α->D)(h:∀x,imm (f x)=yn):∀xs:List α,c9 (xs.map f)=yn
 |[]=>by simp only[cZ,c9]
 |x::xs=>by simp only[ax,c9,h x,m6 f h xs,er]
end VS
namespace Prog
open PySem L2 VS
abbrev iD(ns:List Int):D:=.list (ns.map .int)
end Prog
namespace VS
open PySem L2
mutual
theorem eqv_refl:∀d:D,d.canLay0=yn->aF d d=yn
 |.none,_=>by simp[aF]
 |.bool b,_=>by simp[aF]
 |.int i,_=>by simp[aF]
 |.str x,_=>by simp[aF]
 |.list xs,h=>by
  simp only[cE]at h;simp only[aF];exact eqvAll_refl xs h
 |.tuple xs,h=>by
  simp only[cE]at h;simp only[aF];exact eqvAll_refl xs h
 |.dict _,h=>by simp[cE]at h
theorem eqvAll_refl:∀xs:List D,aY xs=yn->bN xs xs=yn
 |[],_=>by simp only[bN]
 |x::xs,h=>by
  simp only[aY,aC]at h;simp only[bN,aC];exact⟨eqv_refl x h.1,eqvAll_refl xs h.2⟩
end
def a9Z{a b:D}(ha:a.canLay0=yn)(hb:b.canLay0=yn)(hd:a.depth<=60):dEq a b=cz (.bool (aF a b)):=by
 unfold dEq b0Z;rw[ha,hb,aW hd];simp
def c1X{a b:D}(ha:a.canLay0=yn)(hb:b.canLay0=yn)(hd:a.depth<=60):dNe a b=cz (.bool (!aF a b)):=by
 unfold dNe b0Z;rw[ha,hb,aW hd];simp
def c1Y{a:D}(ha:a.canLay0=yn)(hd:a.depth<=60):dEq a a=cz (.bool yn):=by rw[a9Z ha ha hd,eqv_refl a ha]
def b0a{a:D}(ha:a.canLay0=yn)(hd:a.depth<=60):dNe a a=cz (.bool yp):=by rw[c1X ha ha hd,eqv_refl a ha];rfl
theorem a0b(f:α->D)(h:∀x,(f x).canLay0=yn):∀xs:List α,aY (xs.map f)=yn
 |[]=>by simp only[cZ,aY]
 |x::xs=>by simp only[ax,aY,h x,a0b f h xs,er]
theorem G0(f:α->D)(n:Nat)(h:∀x,(f x).depth<=n):∀xs:List α,cW (xs.map f)<=n
 |[]=>by simp only[cZ,cW];exact cG _
 |x::xs=>by
  simp only[ax,cW];exact Nat.max_le.mpr ⟨h x,G0 f n h xs⟩
def b7b:(aK i).canLay0=yn:=by simp only[cE]
def a1I:(aK i).depth=0:=by simp only[dN]
def lay_ints(ns:List Int):(b_ (ns.map .int)).canLay0=yn:=by
 simp only[cE];exact a0b _ (λ_=>b7b) ns
def U0(ns:List Int):(b_ (ns.map .int)).depth<=1:=by
 simp only[dN];have:=G0 aK 0 (λx=>by rw[a1I];exact ay _) ns;lia
theorem a3J:∀(xs ys:List Int),bN (xs.map aK) (ys.map aK)=decide (xs=ys)
 |[],[]=>by simp[bN]
 |[],_::_=>by simp[bN]
 |_::_,[]=>by simp[bN]
 |x::xs,y::ys=>by
  have:aF (.int x) (.int y)=decide (x=y):=by
   show (x==y)=decide (x=y);exact gr x y
  simp only[ax,bN,this,a3J xs ys,gi];by_cases h1:x=y<;>by_cases h2:xs=ys<;>simp[h1,h2]
def c1Z{xs ys:List Int}:dEq (.list (xs.map .int)) (.list (ys.map .int))=cz (.bool (decide (xs=ys))):=by
 rw[a9Z (lay_ints _) (lay_ints _) (cF (U0 _) (by decide))];simp only[aF,a3J]
def b2b:Option D->Option D->Option D
 |some (.list ds),cz (.list es)=>if ds.length+es.length<=aZ then cz (.list (ds++es)) else xn
 |_,_=>xn
def b0b{Z:List D}:T3 a b Z=b2b (a Z) (b Z):=by
 unfold T3;cases a Z with
 |none=>rfl
 |some x=>
  cases x with
  |list ds=>
   cases b Z with
   |none=>rfl
   |some y=>cases y<;>rfl
  |_=>cases b Z<;>rfl
def b4s{ds es:List D}(h:ds.length+es.length<=16777216):b2b (cz (.list ds)) (cz (.list es))=cz (.list (ds++es)):=by
 show (if ds.length+es.length<=aZ then _ else _)=_;rw[aB (show ds.length+es.length<=aZ from h)]
def lSl:Option D->Option (Option Int)->Option (Option Int)->Option D
 |some (.list ds),cz l,cz h=>cz (.list (cutD ds l h))
 |_,_,_=>xn
def b7c{Z:List D}:eSl a lo hi Z=lSl (a Z) (lo Z) (hi Z):=by
 unfold eSl;cases a Z with
 |none=>rfl
 |some x=>
  cases x with
  |list ds=>
   cases lo Z with
   |none=>rfl
   |some y=>cases hi Z<;>rfl
  |_=>cases lo Z<;>cases hi Z<;>rfl
def b0c:lSl (cz (.list ds)) (cz l) (cz h)=cz (.list (cutD ds l h)):=rfl
def b0d{Z:List D}:oNo Z=cz xn:=rfl
def lO:Option D->Option (Option Int)
 |some (.int i)=>cz (cz i)
 |_=>xn
def b0e{Z:List D}:oSo a Z=lO (a Z):=by
 unfold oSo;cases a Z with
 |none=>rfl
 |some x=>cases x<;>rfl
def b7d:lO (cz (.int i))=cz (cz i):=rfl
def a8N{ds:List D}{k:Int}(h0:0<=k)(h1:k<=ds.length):cutD ds xn (cz k)=ds.take k.toNat:=by
 unfold cutD HT.sIx
 dsimp only
 rw[aJ (by lia),List.drop_zero,Nat.sub_zero,jq (by lia)]
def b4t{ds:List D}{k:Int}(h0:0<=k)(h1:k<=ds.length):cutD ds (cz k) xn=ds.drop k.toNat:=by
 unfold cutD HT.sIx;simp only[aJ (show ¬ k<0 by lia),jq (show k.toNat<=ds.length by lia)];exact kZ (by rw[gH];exact ay _)
def a3K{xs ys:List Int}(h:xs.length+ys.length<=16777216):b2b (cz (.list (xs.map .int))) (cz (.list (ys.map .int)))=cz (.list ((xs++ys).map .int)):=by
 rw[b4s (by simpa using h),aO]
def a2K{xs:List Int}:lIs (cz (.list (xs.map .int)))=cz (.list (xs.map .int)):=a9X (u9 _)
def a2L:aF (.int x) (.int y)=decide (x=y):=by
 show (x==y)=decide (x=y);exact gr x y
def at0{α:Type}{x:α}{xs:List α}:L2.atI (x::xs) 0=cz x:=by
 unfold L2.atI ixN;rw[aB (by decide),aB (by simp only[aS];lia)];rfl
def at1{α:Type}{x y:α}{xs:List α}:L2.atI (x::y::xs) 1=cz y:=by
 unfold L2.atI ixN;rw[aB (by decide),aB (by simp only[aS];lia)];rfl
def t5{enc:α->D}{set:List D->D->Option (List D)}{xs:List α}{Z:List D}(I:List α->List D->Prop)(h0:I [] Z)
  (step:∀pre x post,xs=pre++x::post->∀Z,I pre Z->∃Z1 Z2,set Z (enc x)=cz Z1/\g Z1=cz (.nx Z2)/\I (pre++[x]) Z2) :
  ∃Z',V8 set g (xs.map enc) Z=cz (.nx Z')/\I xs Z':=by
 have key:∀(post pre:List α) (Z:List D),xs=pre++post->I pre Z->∃Z',V8 set g (post.map enc) Z=cz (.nx Z')/\I xs Z':=by
  intro post
  induction post with
  |nil=>
   intro pre Z e h;rw[bb]at e;subst e;exact⟨Z,rfl,h⟩
  |cons x post ih=>
   intro pre Z e h;obtain⟨Z1,Z2,h1,h2,h3⟩:=step pre x post e Z h;obtain⟨Z',h4,h5⟩:=ih (pre++[x]) Z2 (by rw[e,aN];rfl) h3;refine⟨Z',?_,h5⟩;show (set Z (enc x)).bind _=_;rw[h1];show (g Z1).bind _=_;rw[h2];exact h4
 exact key xs [] Z rfl h0
def a5b:l7 0 n=(az n).map λ(k:Nat)=>aK k:=by
 unfold l7;refine bH λk _=>?_
 show aK (0+(k:Int))=.int k;rw[Int.zero_add]
def X9(h:az n=pre++x::post):x=pre.length/\x<n/\pre=az x:=by
 have hx:(az n)[pre.length]?=cz x:=by rw[h];simp
 have jk:pre.length<n:=by have:=dE d_ h;simp at this;lia
 rw[fT jk]at hx;have e:x=pre.length:=(aH hx).symm;refine⟨e,by lia,?_⟩;have:=dE (List.take pre.length) h;rw[List.take_append_of_le_length (ay _),oO,pO,jq (by lia)]at this;rw[e,this]
def U1{set:List D->D->Option (List D)}{Z:List D}(I:Nat->List D->Prop)(h0:I 0 Z)
  (step:∀k,k<n->∀Z,I k Z->∃Z1 Z2,set Z (.int k)=cz Z1/\g Z1=cz (.nx Z2)/\I (k+1) Z2) :
  ∃Z',V8 set g (l7 0 n) Z=cz (.nx Z')/\I n Z':=by
 rw[a5b];obtain⟨Z',h1,h2⟩:=t5 (enc:=λ(k:Nat)=>aK k) (set:=set) (g:=g) (xs:=az n) (Z:=Z) (λpre Z=>I pre.length Z) h0 λpre x post e Z h=>by
  obtain⟨e1,e2,_⟩:=X9 e;subst e1;obtain⟨Z1,Z2,a,b,c⟩:=step pre.length e2 Z h;exact⟨Z1,Z2,a,b,by rw[aA];exact c⟩
 rw[bF]at h2;exact⟨Z',h1,h2⟩
def big:Int:=10^60
def c0j:1000<big:=by decide
abbrev i8:=List (List (Int×Int))
def stD(p:Int×Int):D:=.tuple [.int p.1,.int p.2]
def rwD(r:List (Int×Int)):D:=.list (r.map stD)
def rowAt(m:i8)(s:Int):List (Int×Int):=m.getD s.toNat []
def stp(m:i8)(s a:Int):Int×Int:=(rowAt m s).getD a.toNat (0,0)
structure WF (m:i8) (k:Nat):Prop where
 pos:0<m.length
 le:m.length<=30
 k1:1<=k
 k5:k<=5
 rows:∀r∈m,r.length=k
 next:∀r∈m,∀p∈r,0<=p.2/\p.2<(m.length:Int)
def G5{m:i8}{s:Int}(h0:0<=s)(h1:s<m.length):rowAt m s∈m:=by
 unfold rowAt;rw[af,ab (by lia)];exact dm _
def WF.row{m:i8}{k:Nat}(w:WF m k){s:Int}(h0:0<=s)(h1:s<m.length):(rowAt m s).length=k:=w.rows _ (G5 h0 h1)
def b7e{m:i8}{k:Nat}(w:WF m k){s a:Int}(h0:0<=s)(h1:s<m.length)(h2:0<=a)(h3:a<k):stp m s a∈rowAt m s:=by
 have:=w.row h0 h1;unfold stp;rw[af,ab (by lia)];exact dm _
def WF.nx{m:i8}{k:Nat}(w:WF m k){s a:Int}(h0:0<=s)(h1:s<m.length)(h2:0<=a)(h3:a<k):0<=(stp m s a).2/\(stp m s a).2<(m.length:Int):=w.next _ (G5 h0 h1) _ (b7e w h0 h1 h2 h3)
def a1J{m:i8}{s:Int}(h0:0<=s)(h1:s<m.length):L2.atI (m.map rwD) s=cz (rwD (rowAt m s)):=by
 rw[X1 h0 (by rw[ai];exact h1),dF];unfold rowAt;rw[af,ab (by lia)];rfl
def a8O{r:List (Int×Int)}{a:Int}(h0:0<=a)(h1:a<r.length):dIx (rwD r) (.int a)=cz (stD (r.getD a.toNat (0,0))):=by
 show L2.atI (r.map stD) a=_;rw[X1 h0 (by rw[ai];exact h1),dF,af,ab (by lia)];rfl
def c2a:dIx (stD p) (.int 0)=cz (.int p.1):=rfl
def c2b:dIx (stD p) (.int 1)=cz (.int p.2):=rfl
def a1K:imm (stD p)=yn:=by unfold stD;simp only[imm,c9,er]
def c0k:a5C (stD p)=cz (stD p):=b3n a1K
def b7f:a5C (.int i)=cz (.int i):=b3n T6
def c2c:B8 [rwD r]=cz (.int r.length):=by
 show cz (aK ((r.map stD).length:Nat))=_;rw[ai]
def b7g{Z:List D}:b3j i j (cz (stD p)) Z=cz (.nx ((Z.set i (.int p.1)).set j (.int p.2))):=rfl
def a8P(p:Int×Int):(stD p).canLay0=yn:=by unfold stD;simp[cE,aY]
def c0l(r:List (Int×Int)):(rwD r).canLay0=yn:=by unfold rwD;simp only[cE];exact a0b _ a8P r
def b4u(m:i8):(b_ (m.map rwD)).canLay0=yn:=by simp only[cE];exact a0b _ c0l m
def a3L(p:Int×Int):(stD p).depth<=1:=by unfold stD;simp[dN,cW]
def b4v(r:List (Int×Int)):(rwD r).depth<=2:=by
 unfold rwD;simp only[dN];have:=G0 stD 1 a3L r;lia
def a8Q(m:i8):(b_ (m.map rwD)).depth<=60:=by
 simp only[dN];have:=G0 rwD 2 b4v m;lia
def neM{m:i8}:dNe (.list (m.map rwD)) (.list (m.map rwD))=cz (.bool yp):=b0a (b4u m) (a8Q m)
def g7(m:i8):Int->List Int->List Int×Int
 |s,[]=>([],s)
 |s,a::p=>((stp m s a).1::(g7 m (stp m s a).2 p).1,(g7 m (stp m s a).2 p).2)
theorem a5c(m:i8):∀(p q:List Int) (s:Int),g7 m s (p++q)=((g7 m s p).1++(g7 m (g7 m s p).2 q).1,(g7 m (g7 m s p).2 q).2)
 |[],q,s=>rfl
 |a::p,q,s=>by
  show ((stp m s a).1::(g7 m (stp m s a).2 (p++q)).1,(g7 m (stp m s a).2 (p++q)).2)=_;rw[a5c m p q];rfl
theorem a0c(m:i8):∀(p:List Int) (s:Int),(g7 m s p).1.length=p.length
 |[],s=>rfl
 |a::p,s=>by
  show (g7 m (stp m s a).2 p).1.length+1=_;rw[a0c m p];rfl
theorem a0d{m:i8}{k:Nat}(w:WF m k):∀(p:List Int) (s:Int),0<=s->s<m.length->(∀a∈p,0<=a/\a<(k:Int))->0<=(g7 m s p).2/\(g7 m s p).2<(m.length:Int)
 |[],s,h0,h1,_=>⟨h0,h1⟩
 |a::p,s,h0,h1,h=>by
  have ha:=h a aL;have hn:=w.nx h0 h1 ha.1 ha.2;exact a0d w p _ hn.1 hn.2 λb hb=>h b (aw _ hb)
def U2(m:i8)(p:List Int)(a s:Int):g7 m s (p++[a])=((g7 m s p).1++[(stp m (g7 m s p).2 a).1],(stp m (g7 m s p).2 a).2):=by
 rw[a5c];rfl
def c3y:Option Out->Option D
 |some (.rt d)=>cz d
 |some (.nx _)=>cz .none
 |_=>xn
def c2d(h:argsOk us ds=yn):fnN us n g ds=c3y (g (ds++aT n .none)):=by
 unfold fnN;rw[aB h];cases g (ds++aT n .none) with
 |none=>rfl
 |some o=>cases o<;>rfl
section
variable {i:Nat}{t u2:Ty}{Z ds es:List D}{e d:D}{fe fj fa:EvE}{j a:Int}
def a3M{n:Nat}(h0:0<=j)(h1:j<n):ixN n j=cz j.toNat:=by
 unfold ixN;rw[aB h0,aB h1]
def c3z(h:Z.getD i .none=.list ds)(hf:fe Z=cz d)(ha:fa Z=cz (.int a))(a0:0<=a)(a1:a<ds.length)(he:ds[a.toNat]?=cz (.list es))(hj:fj Z=cz (.int j))(h0:0<=j)(h1:j<es.length) :
  b6i i (.l (.l t)) (pIx i (.l (.l t)) p6 fa) fj fe Z=cz (.nx (Z.set i (.list (ds.set a.toNat (.list (es.set j.toNat d)))))):=by
 unfold b6i pIx p6;rw[hf,h];show (((cz []).bind λp=>(x8 (.l (.l t)) (.list ds) p).bind λjC=>(fa Z).bind λy=>(asI y).bind λk=>(ixN jC.length k).bind λj=>cz (p++[j])).bind _)=_;show (((fa Z).bind λy=>(asI y).bind λk=>(ixN ds.length k).bind λj=>cz ([]++[j])).bind _)=_;rw[ha];show (((ixN ds.length a).bind λj=>cz ([]++[j])).bind _)=_;rw[a3M a0 a1];show (x8 (.l (.l t)) (.list ds) [a.toNat]).bind _=_;have hi:x8 (.l (.l t)) (.list ds) [a.toNat]=cz es:=by
  unfold x8 dAt;rw[he];rfl
 rw[hi];show (fj Z).bind _=_;rw[hj];show (ixN es.length j).bind _=_;rw[a3M h0 h1];show cz (Out.nx (Z.set i (a0W (.list ds) [a.toNat] (.list (es.set j.toNat d)))))=_;rfl
end
def eq_nil{p:List Int}:dEq (.list (p.map .int)) (.list [])=cz (.bool (decide (p=[]))):=c1Z (ys:=[])
def c0m:b4q (cz (rwD r))=cz (rwD r):=rfl
def c2e:lIs (cz (rwD r))=cz (rwD r):=a9X (m6 _ (λ_=>a1K) r)
def b4w{m:i8}{Z:List D}(h:a Z=cz (.list (m.map rwD)))(hl:m.length<=1000):n9 (iL a) [] pt1 tT (eI (D9 (a6 0))) Z=cz (.list (m.map rwD)):=by
 rw[a3I (ds:=m.map rwD) id]
 ·rw[List.map_id]
 ·rw[b2a,h];rfl
 ·rw[ai];lia
 ·intro d hd;obtain⟨r,_,rfl⟩:=aI.mp hd;refine⟨_,rfl,?_⟩;show eI (D9 (a6 0)) [rwD r]=cz (rwD r);rw[a5a,a9Y];show lIs (b4q (cz (rwD r)))=_;rw[c0m,c2e]
end VS
namespace Prog
open PySem L2 VS
def top(i:Nat):iE:=PySem.Challenge.pw_probewell_k53_answers_of_a_book.main.body.getD i (.Pass ⟨0,0,0,0⟩)
structure Bn (K:ag) (mg:bE->Option ak):Prop where
 d0:DP K mg "_law_mixed" (top 41)
 d1:DP K mg "_law_drawn" (top 43)
 d2:DP K mg "_law_pool" (top 42)
 d3:DP K mg "_law_machine" (top 44)
 d4:DP K mg "_law_most" (top 45)
 d5:DP K mg "is_whole" (top 5)
 d6:DP K mg "need_size" (top 34)
 d7:DP K mg "first_of_classes" (top 30)
 d8:DP K mg "renumbered" (top 17)
 d9:DP K mg "finer_level" (top 16)
 d10:DP K mg "levels_of" (top 15)
 d11:DP K mg "ways_from" (top 27)
 d12:DP K mg "ways_by_state" (top 26)
 d13:DP K mg "reached" (top 25)
 d14:DP K mg "least" (top 29)
 d15:DP K mg "rank" (top 10)
 d16:DP K mg "marks_among" (top 22)
 d17:DP K mg "first_parting" (top 19)
 d18:DP K mg "first_unlike" (top 18)
 d19:DP K mg "apart_from" (top 14)
 d20:DP K mg "apart" (top 13)
 d21:DP K mg "marks" (top 21)
 d22:DP K mg "one_ask_longer" (top 35)
 d23:DP K mg "rows_of" (top 32)
 d24:DP K mg "asks_of" (top 8)
 d25:DP K mg "ways" (top 24)
 d26:DP K mg "walked" (top 11)
 d27:DP K mg "book_probes" (top 39)
 d28:DP K mg "book_size" (top 33)
 d29:DP K mg "book" (top 38)
 d30:DP K mg "_law_wholes" (top 46)
 d31:DP K mg "_law_answers" (top 47)
 d32:DP K mg "_law_is_book" (top 48)
 d33:DP K mg "law" (top 49)
 bool_:mg "bool"=xn
 enumerate_:mg "enumerate"=xn
 int_:mg "int"=xn
 isinstance_:mg "isinstance"=xn
 len_:mg "len"=xn
 list_:mg "list"=xn
 max_:mg "max"=xn
 min_:mg "min"=xn
 range_:mg "range"=xn
 reversed_:mg "reversed"=xn
 sorted_:mg "sorted"=xn
 tuple_:mg "tuple"=xn
 MOST_IN_BOOK_:∃t,mg "MOST_IN_BOOK"=cz (.int 3000 t)
 MOST_STATES_:∃t,mg "MOST_STATES"=cz (.int 30 t)
structure Bk (P:bB) (w:bZ) (K:ag) (mg:bE->Option ak) (base:cS):Prop extends Bn K mg
variable {P:bB}{w:bZ}{K:ag}{mg:bE->Option ak}{base:cS}
abbrev HB(_:Bk P w K mg base):=Has P w K mg base
def c2f:(["answer","after","numbers"]:List bE).Nodup:=by decide +kernel
def c3A:(["row"]:List bE).Nodup:=by decide +kernel
def c3B:(["step"]:List bE).Nodup:=by decide +kernel
def c3C:(["number","places"]:List bE).Nodup:=by decide +kernel
def c3D:(["state","machine","numbers"]:List bE).Nodup:=by decide +kernel
def c2g:(["probe"]:List bE).Nodup:=by decide +kernel
def c3E:(["level","one","other"]:List bE).Nodup:=by decide +kernel
def c3F:(["other","machine","levels","state"]:List bE).Nodup:=by decide +kernel
def c3G:(["state","machine","levels"]:List bE).Nodup:=by decide +kernel
def c2h:(["probes"]:List bE).Nodup:=by decide +kernel
def c2i:(["ask","row"]:List bE).Nodup:=by decide +kernel
def c2j:(["state","found"]:List bE).Nodup:=by decide +kernel
def c2k:(["probe","machine"]:List bE).Nodup:=by decide +kernel
def b8c:(["_law_row"]:List bE).Nodup:=by decide +kernel
def b8d:(["_law_probe","_law_answers_here"]:List bE).Nodup:=by decide +kernel
def b_law_mixed:EvS:=(f7 (j5 2 (eC (.int 3))) (f7 (sIf (tB (e2 dGt (eCl B8 (a7 (a6 0) c6)) (eC (.int 0)))) (j5 2 (e2 o8 (a6 0) (e2 K0 (a6 1) (eCl B8 (a7 (a6 0) c6))))) z9) (f7 (j5 2 (e2 K0 (e2 a0Q (e2 J0 (e2 J0 (e2 K0 (a6 2) (eC (.int 2147483629))) (e2 a0Q (eC (.int 7919)) (a6 1))) (eC (.int 1))) (eC (.int 48271))) (eC (.int 2147483647)))) (p7 (e2 K0 (e2 a0Q (a6 2) (e2 J0 (e2 J0 (e2 K0 (a6 2) (eC (.int 65521))) (a6 1)) (eC (.int 2)))) (eC (.int 2147483629)))))))
def m_law_mixed:=fnD [.f,.i] 1 b_law_mixed
abbrev C8(B:Bk P w K mg base)(k:Nat):=HB B "_law_mixed" k ["_law_script","_law_k"] (spD K 2 m_law_mixed .i)
def ok_law_mixed(B:Bk P w K mg base):C8 B 1:=
 m9 B.d0 λ_ _ F=>fnF F ["_law_script","_law_k","_law_cell"] λsc _ _ _ _ _ _ _=>by exact b7 (f9 2 sc.nd (a9 b8)) (b7 (E4 (p8 a6w (w6 B.len_ (b9 0)) b8) (f6 (f9 2 sc.nd (a9 (t8 (b9 0) (j6 x4 (e7 1) (w6 B.len_ (b9 0))))))) v9) (b7 (f9 2 sc.nd (a9 (j6 x4 (j6 S8 (j6 v8 (j6 v8 (j6 x4 (e7 2) b8) (j6 S8 b8 (e7 1))) b8) b8) b8))) (f6 (j7 (a9 (j6 x4 (j6 S8 (e7 2) (j6 v8 (j6 v8 (j6 x4 (e7 2) b8) (e7 1)) b8)) b8))))))
def b_law_drawn:EvS:=(f7 (j5 5 (x5 c6)) (f7 (A7 (iR (a6 2)) (r9 6) (f7 (j5 7 (x5 c6)) (f7 (A7 (iR (a6 3)) (r9 8) (f7 (j5 9 (eCl m_law_mixed (a7 (a6 0) (a7 (e2 J0 (e2 J0 (a6 1) (e2 a0Q (a6 6) (a6 3))) (a6 8)) c6)))) (J6 7 (.l .i) p6 (K1 (a7 (e2 o8 (a6 4) (e2 K0 (a6 9) (eCl B8 (a7 (a6 4) c6)))) (a7 (e2 K0 (e2 b5X (a6 9) (eC (.int 6))) (a6 2)) c6)))))) (J6 5 (.l (.l .i)) p6 (a6 7))))) (p7 (a6 5))))
def m_law_drawn:=fnD [.f,.i,.i,.i,.f] 5 b_law_drawn
abbrev a2n(B:Bk P w K mg base)(k:Nat):=HB B "_law_drawn" k ["_law_script","_law_at","_law_states","_law_asks","_law_pool_here"] (spD K 5 m_law_drawn (.l (.l .i)))
def ok_law_drawn(B:Bk P w K mg base)(cB:C8 B 1):a2n B 2:=
 m9 B.d1 λ_ _ F=>fnF F ["_law_script","_law_at","_law_states","_law_asks","_law_pool_here","_law_rows","_law_s","_law_row","_law_a","_law_cell"] λsc _ _ _ _ _ _ hr=>by exact b7 (f9 5 sc.nd (a9 (q8 (n:=0) k7))) (b7 (B7 rfl bO (C6 B.range_ (e7 2)) (y9 6 sc.nd) a0B b8Y (PSsX.weak (b7 (f9 7 sc.nd (a9 (q8 (n:=0) k7))) (b7 (B7 rfl bO (C6 B.range_ (e7 3)) (y9 8 sc.nd) a0B b8Y (PSsX.weak (b7 (f9 9 sc.nd (a9 (m4 cB hr (a8 (b9 0) (a8 (j6 v8 (j6 v8 (e7 1) (j6 S8 (e7 6) (e7 3))) (e7 8)) c8))))) (f6 (O9 7 (E5 7) (a9 (a2G (n:=2) (i5 (t8 (b9 4) (j6 x4 (e7 9) (w6 B.len_ (b9 4)))) (i5 (j6 x4 (j6 b8S (e7 9) b8) (e7 2)) k7)))) a0X))) n5 ((m5 8).trans (m5 9)))) (f6 (O9 5 (E5 5) (E3 7) a0X)))) n5 (m5 6))) (f6 (j7 (E3 5))))
def b_law_pool:EvS:=(f7 (j5 2 (e2 a3b (e2 b5Y (eC (.int 10)) (eC (.int 60))) (eC (.int 1)))) (f7 (j5 3 (e2 K0 (eCl m_law_mixed (a7 (a6 0) (a7 (a6 1) c6))) (eC (.int 3)))) (f7 (sIf (tB (e2 dEq (a6 3) (eC (.int 0)))) (p7 (x5 (a7 (eC (.int 0)) (a7 (eC (.int 1)) c6)))) z9) (f7 (sIf (tB (e2 dEq (a6 3) (eC (.int 1)))) (p7 (x5 (a7 (e2 a3b (e2 K0 (eCl m_law_mixed (a7 (a6 0) (a7 (e2 J0 (a6 1) (eC (.int 1))) c6))) (eC (.int 7))) (eC (.int 3))) (a7 (e2 a3b (e2 K0 (eCl m_law_mixed (a7 (a6 0) (a7 (e2 J0 (a6 1) (eC (.int 2))) c6))) (eC (.int 7))) (eC (.int 3))) c6)))) z9) (p7 (x5 (a7 (a6 2) (a7 (e2 a3b (eC (.int 0)) (a6 2)) (a7 (e2 a3b (e2 K0 (e2 b5Y (eCl m_law_mixed (a7 (a6 0) (a7 (e2 J0 (a6 1) (eC (.int 1))) c6))) (eC (.int 7))) (e2 J0 (e2 a0Q (eC (.int 2)) (a6 2)) (eC (.int 1)))) (a6 2)) c6)))))))))
def m_law_pool:=fnD [.f,.i] 2 b_law_pool
abbrev a3N(B:Bk P w K mg base)(k:Nat):=HB B "_law_pool" k ["_law_script","_law_at"] (spD K 2 m_law_pool (.l .i))
def ok_law_pool(B:Bk P w K mg base)(cB:C8 B 1):a3N B 2:=
 m9 B.d2 λ_ _ F=>fnF F ["_law_script","_law_at","_law_far","_law_way"] λsc _ _ _ _ _ _ hr=>by exact b7 (f9 2 sc.nd (a9 (j6 W4 (j6 b2S b8 b8) b8))) (b7 (f9 3 sc.nd (a9 (j6 x4 (m4 cB hr (a8 (b9 0) (a8 (e7 1) c8))) b8))) (b7 (E4 (p8 X7 (e7 3) b8) (f6 (j7 (a9 (q8 (n:=2) (i5 b8 (i5 b8 k7)))))) v9) (b7 (E4 (p8 X7 (e7 3) b8) (f6 (j7 (a9 (q8 (n:=2) (i5 (j6 W4 (j6 x4 (m4 cB hr (a8 (b9 0) (a8 (j6 v8 (e7 1) b8) c8))) b8) b8) (i5 (j6 W4 (j6 x4 (m4 cB hr (a8 (b9 0) (a8 (j6 v8 (e7 1) b8) c8))) b8) b8) k7)))))) v9) (f6 (j7 (a9 (q8 (n:=3) (i5 (PX.newi (e7 2)) (i5 (j6 W4 b8 (e7 2)) (i5 (j6 W4 (j6 x4 (j6 b2S (m4 cB hr (a8 (b9 0) (a8 (j6 v8 (e7 1) b8) c8))) b8) (j6 v8 (j6 S8 b8 (e7 2)) b8)) (e7 2)) k7))))))))))
def b_law_machine:EvS:=(f7 (j5 1 (e2 J0 (eC (.int 1)) (e2 K0 (eCl m_law_mixed (a7 (a6 0) (a7 (eC (.int 0)) c6))) (eC (.int 5))))) (f7 (j5 2 (e2 J0 (eC (.int 1)) (e2 K0 (eCl m_law_mixed (a7 (a6 0) (a7 (eC (.int 1)) c6))) (eC (.int 3))))) (f7 (sIf (tB (e2 dEq (e2 K0 (eCl m_law_mixed (a7 (a6 0) (a7 (eC (.int 2)) c6))) (eC (.int 8))) (eC (.int 5)))) (f7 (j5 1 (e2 J0 (eC (.int 6)) (e2 K0 (eCl m_law_mixed (a7 (a6 0) (a7 (eC (.int 0)) c6))) (eC (.int 7))))) (j5 2 (e2 J0 (eC (.int 1)) (e2 K0 (eCl m_law_mixed (a7 (a6 0) (a7 (eC (.int 1)) c6))) (eC (.int 2)))))) z9) (p7 (eCl m_law_drawn (a7 (a6 0) (a7 (eC (.int 10)) (a7 (a6 1) (a7 (a6 2) (a7 (eCl m_law_pool (a7 (a6 0) (a7 (eC (.int 3)) c6))) c6))))))))))
def m_law_machine:=fnD [.f] 2 b_law_machine
abbrev a0l(B:Bk P w K mg base)(k:Nat):=HB B "_law_machine" k ["_law_script"] (spD K 1 m_law_machine (.l (.l .i)))
def ok_law_machine(B:Bk P w K mg base)(cB:C8 B 2)(jP:a2n B 2)(ko:a3N B 2):a0l B 3:=
 m9 B.d3 λ_ _ F=>fnF F ["_law_script","_law_states","_law_asks"] λsc _ _ _ _ _ _ hr=>by exact b7 (f9 1 sc.nd (a9 (j6 v8 b8 (j6 x4 (m4 cB hr (a8 (b9 0) (a8 b8 c8))) b8)))) (b7 (f9 2 sc.nd (a9 (j6 v8 b8 (j6 x4 (m4 cB hr (a8 (b9 0) (a8 b8 c8))) b8)))) (b7 (E4 (p8 X7 (j6 x4 (m4 cB hr (a8 (b9 0) (a8 b8 c8))) b8) b8) (b7 (f9 1 sc.nd (a9 (j6 v8 b8 (j6 x4 (m4 cB hr (a8 (b9 0) (a8 b8 c8))) b8)))) (f6 (f9 2 sc.nd (a9 (j6 v8 b8 (j6 x4 (m4 cB hr (a8 (b9 0) (a8 b8 c8))) b8)))))) v9) (f6 (j7 (a9 (m4 jP hr (a8 (b9 0) (a8 b8 (a8 (e7 1) (a8 (e7 2) (a8 (m4 ko hr (a8 (b9 0) (a8 b8 c8))) c8)))))))))))
def b_law_most:EvS:=(f7 (j5 3 (e2 o8 (x5 (a7 (eC (.int 0)) (a7 (eC (.int 1)) (a7 (eC (.int 2)) (a7 (eC (.int 0)) (a7 (eC (.int 1)) (a7 (eC (.int (-1))) c6))))))) (e2 K0 (eCl m_law_mixed (a7 (a6 0) (a7 (eC (.int 7)) c6))) (eC (.int 6))))) (f7 (sIf (tB (e2 dGt (e2 a0Q (eCl B8 (a7 (a6 1) c6)) (eCl B8 (a7 (e2 dIx (a6 1) (eC (.int 0))) c6))) (eC (.int 8)))) (j5 3 (eCl (D8 yp) (a7 (a6 3) (a7 (eC (.int 1)) c6)))) z9) (f7 (sIf (tB (e2 dGt (eCl B8 (a7 (a6 1) c6)) (eC (.int 5)))) (j5 3 (eCl (D8 yp) (a7 (a6 3) (a7 (eC (.int 0)) c6)))) z9) (p7 (eCl (D8 yn) (a7 (eC (.int 1)) (a7 (eCl (D8 yp) (a7 (eC (.int 30)) (a7 (e2 J0 (a6 2) (a6 3)) c6))) c6)))))))
def m_law_most:=fnD [.f,.f,.i] 1 b_law_most
abbrev a3O(B:Bk P w K mg base)(k:Nat):=HB B "_law_most" k ["_law_script","_law_machine_here","_law_count"] (spD K 3 m_law_most .i)
def ok_law_most(B:Bk P w K mg base)(cB:C8 B 1):a3O B 2:=
 m9 B.d4 λ_ _ F=>fnF F ["_law_script","_law_machine_here","_law_count","_law_extra"] λsc _ _ _ _ _ _ hr=>by exact b7 (f9 3 sc.nd (a9 (t8 (q8 (n:=6) (i5 b8 (i5 b8 (i5 b8 (i5 b8 (i5 b8 (i5 (a0y) k7))))))) (j6 x4 (m4 cB hr (a8 (b9 0) (a8 b8 c8))) b8)))) (b7 (E4 (p8 a6w (j6 S8 (w6 B.len_ (b9 1)) (w6 B.len_ (t6 (PX.newf (b9 1)) b8))) b8) (f6 (f9 3 sc.nd (a9 (T0 (a8a rfl) B.min_ PyProof.Rows.Boot.«min» (a8 (e7 3) (a8 b8 c8)))))) v9) (b7 (E4 (p8 a6w (w6 B.len_ (b9 1)) b8) (f6 (f9 3 sc.nd (a9 (T0 (a8a rfl) B.min_ PyProof.Rows.Boot.«min» (a8 (e7 3) (a8 b8 c8)))))) v9) (f6 (j7 (a9 (T0 (a7Z rfl) B.max_ PyProof.Rows.Boot.«max» (a8 b8 (a8 (T0 (a8a rfl) B.min_ PyProof.Rows.Boot.«min» (a8 b8 (a8 (j6 v8 (e7 2) (e7 3)) c8))) c8))))))))
def a3P:EvS:=(p7 (b6b (e1 (λd=>cz (.bool (isInt d))) (a6 0)) (b6c (e1 (λd=>cz (.bool (isBool d))) (a6 0)))))
def U3:=fnD [.f] 0 a3P
abbrev a3Q(B:Bk P w K mg base)(k:Nat):=HB B "is_whole" k ["thing"] (spD K 1 U3 .i)
def a7u(B:Bk P w K mg base):a3Q B 1:=
 m9 B.d5 λ_ _ F=>fnF F ["thing"] λ_ _ _ _ _ _ _ _=>by exact f6 (j7 (a9 (b8U (a0z a9z B.isinstance_ B.int_ PyProof.Rows.Boot.«int» (b9 0)) (b2Z (b8V (a0z a6A B.isinstance_ B.bool_ PyProof.Rows.Boot.«bool» (b9 0)))))))
def a2o:EvS:=(sIf (P9 (tNo (tV (eCl U3 (a7 (a6 0) c6)))) (tNo (tB (eCh dLe dLe (eC (.int 1)) (a6 0) (a6 1))))) sNo z9)
def O2:=fnN [.f,.i] 0 a2o
abbrev a2p(B:Bk P w K mg base)(k:Nat):=HB B "need_size" k ["thing","most"] (spD K 2 O2 .i)
def a5V(B:Bk P w K mg base)(ku:a3Q B 1):a2p B 2:=
 m9 B.d6 λ_ _ F=>c3k F ["thing","most"] [.own .f,.own .i] λ_ _ _ _ _ _ _ hr=>by exact f6 (E4 (PWX.pt (O8 (K7 (G9 (m4 ku hr (a8 (b9 0) c8)))) (S9 (K7 (b1a b7U b7U b8 (b9 0) (e7 1)))))) (f6 (b7W)) v9)
def N7:EvS:=(f7 (j5 2 (eC (.dict []))) (f7 (A7 (iI (iL (a6 0))) (r9 3) (b3v (V3 2 yp (e2 o8 (a6 1) (a6 3)) (a6 3)))) (p7 (a5M (a6 2)))))
def y6:=fnD [.f,.f] 2 N7
abbrev N8(B:Bk P w K mg base)(k:Nat):=HB B "first_of_classes" k ["states","finest"] (spD K 2 y6 (.l .i))
def a0g(B:Bk P w K mg base):N8 B 1:=
 m9 B.d7 λ_ _ F=>fnF F ["states","finest","found","state"] λsc _ _ _ _ _ _ hr=>by exact b7 (f9 2 sc.nd (a9 (X2 yp .i))) (b7 (B7 rfl bO (PIX.i (l6 (PX.newf (b9 0)))) (y9 3 sc.nd) a0B b1i (PSsX.weak (f6 (b9I (a6P 2 (by exact hr.units) (t8 (b9 1) (e7 3)) (PX.newi (e7 3))))) n5 (m5 3))) (f6 (j7 (a9 (b3I rfl B.list_ (n6 2))))))
def U4:EvS:=(p7 (n9 (iI (iL (a6 0))) [1] pt2 tT (K1 (a7 (a6 0) (a7 (e2 o8 (a6 2) (a6 1)) c6)))))
def j8:=fnD [.f,.f] 0 U4
abbrev L3(B:Bk P w K mg base)(k:Nat):=HB B "renumbered" k ["row","numbers"] (spD K 2 j8 (.l .i))
def a4v(B:Bk P w K mg base):L3 B 1:=
 m9 B.d8 λ_ _ F=>fnF F ["row","numbers"] λ_ _ _ _ _ _ _ _=>by exact f6 (j7 (a9 (A6 rfl (tn:=["answer","after"]) (ys:=["numbers"]) (m:=.i) (PIX.i (l6 (PX.newf (b9 0)))) rfl (λ_ _ _ _ _=>a1p rfl (u8 (o6 (i:=0) c2f rfl (bL rfl) (.inr rfl)) (u8 (o6 (i:=1) c2f rfl (bL rfl) (.inr rfl)) R9))) a9B (.inl rfl) c1k rfl (λ_ _ _ _ _=>x6) (λ_ _ _ _ _=>(a2G (n:=2) (i5 (PX.newi (e7 0)) (i5 (t8 (b9 2) (e7 1)) k7)))))))
def a0m:EvS:=(f7 (j5 2 (eC (.dict []))) (f7 (j5 3 (x5 c6)) (f7 (A7 (iL (a6 0)) (r9 4) (f7 (j5 5 (W8 (eCl j8 (a7 (a6 4) (a7 (a6 1) c6))))) (a6O 3 (V3 2 yn (a6 5) (eCl a9J (a7 (a6 2) c6)))))) (p7 (a6 3)))))
def v5:=fnD [.f,.f] 4 a0m
abbrev a0n(B:Bk P w K mg base)(k:Nat):=HB B "finer_level" k ["machine","level"] (spD K 2 v5 (.l .i))
def a3R(B:Bk P w K mg base)(eh:L3 B 1):a0n B 2:=
 m9 B.d9 λ_ _ F=>fnF F ["machine","level","numbers","finer","row","seen"] λsc _ _ _ _ _ _ hr=>by exact b7 (f9 2 sc.nd (a9 (X2 yn .i))) (b7 (f9 3 sc.nd (a9 (q8 (n:=0) k7))) (b7 (B7 rfl bO (l6 (PX.newf (b9 0))) (y9 4 sc.nd) T4 (λ_ _ _ _ _=>trivial) (PSsX.weak (b7 (f9 5 sc.nd (a9 (a3e B.tuple_ (m4 eh hr (a8 (b9 4) (a8 (b9 1) c8)))))) (f6 (b6u 3 (a6P 2 (kt:=yn) (by exact hr.units) (PX.newi (e7 5)) (b6r (kt:=yn) B.len_ (n6 2))) (hni:=a8r (by decide))))) n5 ((m5 4).trans (m5 5)))) (f6 (j7 (E3 3)))))
def a2q:EvS:=(f7 (j5 1 (x5 (a7 (n9 (iL (a6 0)) [] pt1 tT (eC (.int 0))) c6))) (f7 (j5 2 (eCl v5 (a7 (a6 0) (a7 (e2 a6z (a6 1) (eC (.int (-1)))) c6)))) (f7 (sWh (λ_=>1000000) (tB (e2 dGt (eCl a0k (a7 (a6 2) c6)) (eCl a0k (a7 (e2 a6z (a6 1) (eC (.int (-1)))) c6)))) (f7 (Z7 1 2 (eCl v5 (a7 (a6 0) (a7 (a6 2) c6)))) z9)) (p7 (a6 1)))))
def C9:=fnD [.f] 2 a2q
abbrev Y0(B:Bk P w K mg base)(k:Nat):=HB B "levels_of" k ["machine"] (spD K 1 C9 (.l (.l .i)))
def a5W(B:Bk P w K mg base)(gP:a0n B 2):Y0 B 3:=
 m9 B.d10 λ_ _ F=>fnF F ["machine","levels","finer"] λsc _ _ _ _ _ _ hr=>by exact b7 (f9 1 sc.nd (a9 (q8 (n:=1) (i5 (A6 rfl (tn:=["row"]) (ys:=[]) (m:=.f) (l6 (PX.newf (b9 0))) rfl (λ_ _ _ _ _=>o6 (i:=0) c3A rfl (bL rfl) (.inr rfl)) A5 (.inr rfl) a4P rfl (λ_ _ _ _ _=>x6) (λ_ _ _ _ _=>b8)) k7)))) (b7 (f9 2 sc.nd (a9 (m4 gP hr (a8 (b9 0) (a8 (a5D (n6 1) (a0y)) c8))))) (b7 (a3i (λ_=>1000000) bO (p8 a6w (T0 (a9L rfl) B.max_ PyProof.Rows.Boot.«max» (a8 (b4m 2) c8)) (T0 (a9L rfl) B.max_ PyProof.Rows.Boot.«max» (a8 (a5D (n6 1) (a0y)) c8))) (b1u 1 2 (by decide) sc.nd rfl rfl rfl rfl (a6S gP hr (Z6 (PXL.of (b9 0)) (Z6 (a6Q) (a6R))) (hfl:=(m7 (m7 K2)))) v9)) (f6 (j7 (E3 1)))))
def a2r:(List D->Option D)->EvS:=λgm=>(f7 (j5 2 (eD1 yp (a6 0) (x5 c6))) (f7 (j5 3 (x5 (a7 (a6 0) c6))) (f7 (sWh (λ_=>1000000) (tV (a6 3)) (f7 (j5 4 (x5 c6)) (f7 (A7 (iI (iL (a6 3))) (r9 5) (A7 (iI (iEn (eCl gm (a7 (a6 5) c6)))) (a3h 6 7) (sIf (tB (e2 (dIn yn yp) (a6 7) (a6 2))) (f7 (F6 2 yp (a6 7) (eI (T3 (e2 (a5H yp) (a6 2) (a6 5)) (x5 (a7 (a6 6) c6))))) (J6 4 (.l .i) p6 (a6 7))) z9))) (j5 3 (a6 4))))) (p7 (a6 2)))))
def O3:=fnL [.i] 6 a2r
abbrev a2s(B:Bk P w K mg base)(k:Nat):=HB B "ways_from" k ["start","led_to"] (spL K 1 (λgm=>FnV P w K mg base 1 1 (.l .i) gm) O3 (.d yp (.l .i)))
def a5X(B:Bk P w K mg base):a2s B 2:=
 m9 B.d11 λ_ _ F=>c3l F ["start","led_to","found","newest","newer","place","ask","after"] λsc gm _ _ _ _ _ _ hr=>by exact b7 (f9 2 sc.nd (a9 (b3D (kt:=yp) (by exact hr.units) (e7 0) (q8 (n:=0) k7)))) (b7 (f9 3 sc.nd (a9 (q8 (n:=1) (i5 (PX.newi (e7 0)) k7)))) (b7 (a3i (M:=[mdI,.fn (FnV P w K mg base 1 1 (.l .i) gm),.own (.d yp (.l .i)),mdL,mdD,mdD,mdD,mdD]) (λ_=>1000000) bO (G9 (b4m 3)) (b7 (f9 4 sc.nd (a9 (q8 (n:=0) k7))) (b7 (PSX.weak (B7 (M:=[mdI,.fn (FnV P w K mg base 1 1 (.l .i) gm),.own (.d yp (.l .i)),mdF,mdL,mdD,mdD,mdD]) rfl bO (PIX.i (l6 (PX.newf (b9 3)))) (y9 5 sc.nd) a0B b1i (PSsX.weak (f6 (a5K (fi:=(iI (iEn (eCl gm (a7 (a6 5) c6))))) (M:=[mdI,.fn (FnV P w K mg base 1 1 (.l .i) gm),.own (.d yp (.l .i)),mdF,mdL,mdI,mdD,mdD]) rfl bO (b9M B.enumerate_ (PX.frz (b4a 1 (k:=1) (n:=1) (m:=gm) (hr.mono (by decide)) (a8 (e7 5) c8) (hfl:=(m7 K2))))) (a1p rfl (u8 (y9 6 sc.nd) (u8 (y9 7 sc.nd) R9))) (a8e (w:=.i) (.inr rfl)) (λZ ds h d hd _=>b1i Z ds h d hd) b3C (PSsX.weak (f6 (E4 (b9D (kt:=yp) (b1p (by exact hr.units)) (e7 7) (n6 2)) (b7 (a2H 2 (kt:=yp) (by exact hr.units) (e7 7) (a9 (MkL.i (a5E (b9F (kt:=yp) (by exact hr.units) (n6 2) (e7 5)) (q8 (n:=1) (i5 (PX.newi (e7 6)) k7)))))) (f6 (O9 4 (E5 4) (a9 (PX.newi (e7 7))) a0X))) v9)) n5 ((m5 6).trans (m5 7))))) n5 (m5 5))) (a3g 3) n5) (f6 (f9 3 sc.nd (E3 4)))))) (f6 (j7 (E3 2)))))
def V4:EvS:=(p7 (b6X O3 [.i] [0] (n9 (iI (iL (e2 dIx (a6 1) (a6 0)))) [] pt1 tT (e2 o8 (a6 0) (eC (.int 1)))) (a7 (eC (.int 0)) c6)))
def u5:=fnD [.f] 0 V4
abbrev K3(B:Bk P w K mg base)(k:Nat):=HB B "ways_by_state" k ["machine"] (spD K 1 u5 (.d yp (.l .i)))
def a1L(B:Bk P w K mg base)(jN:a2s B 2)(LT:(B0 K "ways_by_state").isSome=yn)(KB:K.In base)(GB:base.Ns bV mg):K3 B 3:=
 b6Y B.d12 λ_ _ F a=>c3m F ["machine"] LT KB GB a λ_ _ _ wy wH wq A outer s H _ hr=>by exact f6 (j7 (a9 (by exact a8B (kf:=0) (uf:=(.l .i)) (N:=["state","machine"]) (pl:=["state"]) (ys:=["machine"]) jN hr (b4d b8 (b6W (by decide) wH wy wq rfl)) ⟨_,_,_,rfl,rfl,rfl,rfl,rfl,rfl⟩ ⟨⟨_,rfl⟩,trivial⟩ (by exact⟨rfl,rfl,rfl,by decide +kernel,rfl,by decide +kernel,by decide +kernel,by decide +kernel,rfl⟩) rfl (λ_ _ _ us hl=>by obtain⟨_,rfl⟩:=VS.b9Q hl;rfl) (λfa c A outer s H hr=>A6 rfl (tn:=["step"]) (ys:=[]) (PIX.i (l6 (t6 (PX.newf (b9 1)) (e7 0)))) rfl (λ_ _ _ _ _=>o6 (i:=0) c3B rfl (bL rfl) (.inr rfl)) A5 (.inl rfl) a4Q rfl (λ_ _ _ _ _=>x6) (λ_ _ _ _ _=>(t8 (e7 0) b8))) (hfl:=(b4c b6S)))))
def a5d:EvS:=(p7 (a5L (eCl u5 (a7 (a6 0) c6))))
def a0e:=fnD [.f] 0 a5d
abbrev a5e(B:Bk P w K mg base)(k:Nat):=HB B "reached" k ["machine"] (spD K 1 a0e (.l .i))
def a8R(B:Bk P w K mg base)(eW:K3 B 3):a5e B 4:=
 m9 B.d13 λ_ _ F=>fnF F ["machine"] λ_ _ _ _ _ _ _ hr=>by exact f6 (j7 (a9 (b3H rfl B.list_ (m4 eW hr (a8 (b9 0) c8)))))
def b0f:EvS:=(f7 (j5 1 (e2 dIx (eCl C9 (a7 (a6 0) c6)) (eC (.int (-1))))) (f7 (j5 2 (eCl y6 (a7 (eCl a0e (a7 (a6 0) c6)) (a7 (a6 1) c6)))) (f7 (j5 3 (eC (.dict []))) (f7 (A7 (iI (iEn (a6 2))) (a3h 4 5) (F6 3 yp (e2 o8 (a6 1) (a6 5)) (a6 4))) (f7 (j5 6 (n9 (iI (iL (a6 1))) [3] pt1 tT (e2 (a3o yp) (a6 1) (a6 0)))) (p7 (n9 (iI (iL (a6 2))) [0,6] pt1 tT (eCl j8 (a7 (e2 dIx (a6 1) (a6 0)) (a7 (a6 2) c6))))))))))
def U5:=fnD [.f] 6 b0f
abbrev a5Y(B:Bk P w K mg base)(k:Nat):=HB B "least" k ["machine"] (spD K 1 U5 (.l (.l .i)))
def b4x(B:Bk P w K mg base)(gk:N8 B 4)(eh:L3 B 4)(gv:Y0 B 4)(kX:a5e B 4):a5Y B 5:=
 m9 B.d14 λ_ _ F=>fnF F ["machine","finest","firsts","places","place","state","numbers"] λsc _ _ _ _ _ _ hr=>by exact b7 (f9 1 sc.nd (a9 (t6 (PX.frz (m4 gv hr (a8 (b9 0) c8))) (a0y)))) (b7 (f9 2 sc.nd (a9 (m4 gk hr (a8 (m4 kX hr (a8 (b9 0) c8)) (a8 (b9 1) c8))))) (b7 (f9 3 sc.nd (a9 (X2 yp .i))) (b7 (PSX.weak (a5K (fi:=(iI (iEn (a6 2)))) rfl bO (b9M B.enumerate_ (PX.newf (b9 2))) (a1p rfl (u8 (y9 4 sc.nd) (u8 (y9 5 sc.nd) R9))) (a8e (.inr rfl)) (λZ ds h d hd _=>b1i Z ds h d hd) b3C (PSsX.weak (f6 (a2H 3 (by exact hr.units) (t8 (b9 1) (e7 5)) (a9 (PX.newi (e7 4))))) n5 ((m5 4).trans (m5 5)))) (a3g 2) n5) (b7 (f9 6 sc.nd (a9 (A6 rfl (tn:=["number"]) (ys:=["places"]) (PIX.i (l6 (PX.newf (b9 1)))) rfl (λ_ _ _ _ _=>o6 (i:=0) c3C rfl (bL rfl) (.inr rfl)) A5 (.inl rfl) a4Q rfl (λ_ _ _ _ _=>x6) (λ_ _ _ _ _=>(PX.newi (b9G (by exact hr.units) (n6 1) (e7 0))))))) (f6 (j7 (a9 (A6 rfl (tn:=["state"]) (ys:=["machine","numbers"]) (PIX.i (l6 (PX.newf (b9 2)))) rfl (λ_ _ _ _ _=>o6 (i:=0) c3D rfl (bL rfl) (.inr rfl)) A5 (.inl rfl) a4Q rfl (λ_ _ _ _ _=>x6) (λ_ _ _ _ _=>(m4 eh hr (a8 (t6 (PX.newf (b9 1)) (e7 0)) (a8 (b4m 2) c8))))))))))))
def b4y:EvS:=(p7 (K1 (a7 (eCl B8 (a7 (a6 0) c6)) (a7 (a6 0) c6))))
def a0G:=fnD [.i] 0 b4y
abbrev a8S(B:Bk P w K mg base)(k:Nat):=HB B "rank" k ["probe"] (spD K 1 a0G .i)
def b7h(B:Bk P w K mg base):a8S B 1:=
 m9 B.d15 λ_ _ F=>fnF F ["probe"] λ_ _ _ _ _ _ _ _=>by exact f6 (j7 (a9 (a2G (n:=2) (i5 (w6 B.len_ (e7 0)) (i5 (PX.newi (e7 0)) k7)))))
def a0o:EvS:=(f7 (j5 1 (eC (.dict []))) (f7 (A7 (iL (a6 0)) (r9 2) (sIf (tB (e2 (a7W yn) (a6 2) (eC .none))) (F6 1 yn (W8 (a6 2)) (eC (.bool yn))) z9)) (p7 (b6Q (n9 (iI (iL (a0F a0G (a6 1)))) [] pt1 tT (eI (D9 (a6 0)))) (x5 (a7 (x5 c6) c6))))))
def B9:=fnD [.f] 2 a0o
abbrev a0p(B:Bk P w K mg base)(k:Nat):=HB B "marks_among" k ["probes"] (spD K 1 B9 (.l (.l .i)))
def a3S(B:Bk P w K mg base)(kY:a8S B 1):a0p B 4:=
 m9 B.d16 λ_ _ F=>fnF F ["probes","found","probe"] λsc _ _ _ _ _ _ hr=>by exact b7 (f9 1 sc.nd (a9 (X2 yn .i))) (b7 (B7 rfl bO (l6 (PX.newf (b9 0))) (y9 2 sc.nd) T4 (λ_ _ _ _ _=>trivial) (PSsX.weak (f6 (E4 (p8 b6a (b9 2) b2X) (f6 (a2H 1 (kt:=yn) (by exact hr.units) (a3e B.tuple_ (b9 2)) (a9 Q1))) v9)) n5 (m5 2))) (f6 (j7 (a9 (b9W (A6 rfl (tn:=["probe"]) (ys:=[]) (m:=.i) (PIX.i (l6 (PX.frz (a7e rfl B.sorted_ kY hr (n6 1))))) rfl (λ_ _ _ _ _=>o6 (i:=0) c2g rfl (bL rfl) (.inr rfl)) A5 (.inl rfl) a4Q rfl (λ_ _ _ _ _=>x6) (λ_ _ _ _ _=>(MkL.i (Z4 B.list_ (PX.newi (e7 0)))))) (b2Z (q8 (n:=1) (i5 (q8 (n:=0) k7) k7))))))))
def V5:EvS:=(f7 (j5 2 (eC (.int 0))) (f7 (sWh (λ_=>1000000) (tB (e2 dEq (e2 o8 (a6 0) (a6 2)) (e2 o8 (a6 1) (a6 2)))) (b3y 2 (eC (.int 1)))) (p7 (a6 2))))
def u6:=fnD [.f,.f] 1 V5
abbrev V6(B:Bk P w K mg base)(k:Nat):=HB B "first_parting" k ["seen","against"] (spD K 2 u6 .i)
def a1M(B:Bk P w K mg base):V6 B 1:=
 m9 B.d17 λ_ _ F=>fnF F ["seen","against","ask"] λsc _ _ _ _ _ _ hr=>by exact b7 (f9 2 sc.nd (a9 b8)) (b7 (a3i (λ_=>1000000) bO (p8 X7 (t8 (b9 0) (e7 2)) (t8 (b9 1) (e7 2))) (f6 (b9J 2 sc.nd b8))) (f6 (j7 (a9 (PX.newi (e7 2))))))
def Y1:EvS:=(f7 (j5 4 (e2 a3p (n9 (iL (a6 1)) [2,3] pt1 tT (e2 dEq (e2 o8 (a6 0) (a6 1)) (e2 o8 (a6 0) (a6 2)))) (eC (.bool yn)))) (f7 (sIf (tB (e2 dEq (a6 4) (eCl B8 (a7 (a6 1) c6)))) (p7 (eC .none)) z9) (f7 (j5 5 (x5 c6)) (f7 (A7 (iRv (eSl (a6 1) oNo (oSo (a6 4)))) (r9 6) (f7 (j5 7 (eCl u6 (a7 (eCl j8 (a7 (e2 dIx (a6 0) (a6 2)) (a7 (a6 6) c6))) (a7 (eCl j8 (a7 (e2 dIx (a6 0) (a6 3)) (a7 (a6 6) c6))) c6)))) (f7 (J6 5 (.l .i) p6 (a6 7)) (f7 (j5 2 (e2 o8 (e2 o8 (e2 dIx (a6 0) (a6 2)) (a6 7)) (eC (.int 1)))) (j5 3 (e2 o8 (e2 o8 (e2 dIx (a6 0) (a6 3)) (a6 7)) (eC (.int 1)))))))) (p7 (a6 5))))))
def A0:=fnD [.f,.f,.i,.i] 4 Y1
abbrev Y2(B:Bk P w K mg base)(k:Nat):=HB B "first_unlike" k ["machine","levels","one","other"] (spD K 4 A0 (.l .i))
def a2D(B:Bk P w K mg base)(eh:L3 B 1)(gZ:V6 B 1):Y2 B 2:=
 m9 B.d18 λ_ _ F=>fnF F ["machine","levels","one","other","many","probe","level","ask"] λsc _ _ _ _ _ _ hr=>by exact b7 (f9 4 sc.nd (a9 (b3B (by exact hr.units) (A6 rfl (tn:=["level"]) (ys:=["one","other"]) (m:=.f) (l6 (PX.newf (b9 1))) rfl (λ_ _ _ _ _=>o6 (i:=0) c3E rfl (bL rfl) (.inr rfl)) A5 (.inr rfl) a4P rfl (λ_ _ _ _ _=>x6) (λ_ _ _ _ _=>(b2Y X7 (t8 (b9 0) (e7 1)) (t8 (b9 0) (e7 2))))) Q1))) (b7 (E4 (p8 X7 (e7 4) (w6 B.len_ (b9 1))) (f6 (j7 (a9 (PX.itol b2X)))) v9) (b7 (f9 5 sc.nd (a9 (q8 (n:=0) k7))) (b7 (B7 rfl bO (b6v B.reversed_ (PX.frz (MkL.fz (W7 (PX.newf (b9 1)) W5 (W6 (e7 4)))))) (y9 6 sc.nd) T4 (λ_ _ _ _ _=>trivial) (PSsX.weak (b7 (f9 7 sc.nd (a9 (m4 gZ hr (a8 (m4 eh hr (a8 (t6 (PX.newf (b9 0)) (e7 2)) (a8 (b9 6) c8))) (a8 (m4 eh hr (a8 (t6 (PX.newf (b9 0)) (e7 3)) (a8 (b9 6) c8))) c8))))) (b7 (O9 5 (E5 5) (a9 (PX.newi (e7 7))) a0X) (b7 (f9 2 sc.nd (a9 (t8 (t8 (t6 (PX.newf (b9 0)) (e7 2)) (e7 7)) b8))) (f6 (f9 3 sc.nd (a9 (t8 (t8 (t6 (PX.newf (b9 0)) (e7 3)) (e7 7)) b8))))))) n5 ((m5 6).trans (m5 7)))) (f6 (j7 (E3 5))))))
def a1g:EvS:=(p7 (n9 (iR (eCl B8 (a7 (a6 0) c6))) [0,1,2] pt1 tT (eCl A0 (a7 (a6 1) (a7 (a6 2) (a7 (a6 3) (a7 (a6 0) c6)))))))
def E8:=fnD [.f,.f,.i] 0 a1g
abbrev a1h(B:Bk P w K mg base)(k:Nat):=HB B "apart_from" k ["machine","levels","state"] (spD K 3 E8 (.l (.l .i)))
def a4w(B:Bk P w K mg base)(il:Y2 B 2):a1h B 3:=
 m9 B.d19 λ_ _ F=>fnF F ["machine","levels","state"] λ_ _ _ _ _ _ _ hr=>by exact f6 (j7 (a9 (A6 rfl (tn:=["other"]) (ys:=["machine","levels","state"]) (C6 B.range_ (w6 B.len_ (b9 0))) rfl (λ_ _ _ _ _=>o6 (i:=0) c3F rfl (bL rfl) (.inr rfl)) A5 (.inl rfl) a9C rfl (λ_ _ _ _ _=>x6) (λ_ _ _ _ _=>(m4 il hr (a8 (b9 1) (a8 (b9 2) (a8 (e7 3) (a8 (e7 0) c8)))))))))
def b0g:EvS:=(f7 (j5 1 (eCl C9 (a7 (a6 0) c6))) (p7 (n9 (iR (eCl B8 (a7 (a6 0) c6))) [0,1] pt1 tT (eCl E8 (a7 (a6 1) (a7 (a6 2) (a7 (a6 0) c6)))))))
def a1i:=fnD [.f] 1 b0g
abbrev b0h(B:Bk P w K mg base)(k:Nat):=HB B "apart" k ["machine"] (spD K 1 a1i (.l (.l (.l .i))))
def b4z(B:Bk P w K mg base)(gv:Y0 B 3)(jo:a1h B 3):b0h B 4:=
 m9 B.d20 λ_ _ F=>fnF F ["machine","levels"] λsc _ _ _ _ _ _ hr=>by exact b7 (f9 1 sc.nd (a9 (m4 gv hr (a8 (b9 0) c8)))) (f6 (j7 (a9 (A6 rfl (tn:=["state"]) (ys:=["machine","levels"]) (C6 B.range_ (w6 B.len_ (b9 0))) rfl (λ_ _ _ _ _=>o6 (i:=0) c3G rfl (bL rfl) (.inr rfl)) A5 (.inl rfl) a9C rfl (λ_ _ _ _ _=>x6) (λ_ _ _ _ _=>(m4 jo hr (a8 (b9 1) (a8 (n6 2) (a8 (e7 0) c8)))))))))
def b0i:EvS:=(p7 (n9 (iL (eCl a1i (a7 (a6 0) c6))) [] pt1 tT (eCl B9 (a7 (a6 0) c6))))
def a2M:=fnD [.f] 0 b0i
abbrev b0j(B:Bk P w K mg base)(k:Nat):=HB B "marks" k ["machine"] (spD K 1 a2M (.l (.l (.l .i))))
def b4A(B:Bk P w K mg base)(iM:a0p B 4)(nt:b0h B 4):b0j B 5:=
 m9 B.d21 λ_ _ F=>fnF F ["machine"] λ_ _ _ _ _ _ _ hr=>by exact f6 (j7 (a9 (A6 rfl (tn:=["probes"]) (ys:=[]) (l6 (PX.frz (a0U nt hr (a8 (b9 0) c8) (hfl:=(m7 K2))))) rfl (λ_ _ _ _ _=>o6 (i:=0) c2h rfl (bL rfl) (.inr rfl)) A5 (.inr rfl) a4P rfl (λ_ _ _ _ _=>x6) (λ_ _ _ _ _=>(m4 iM hr (a8 (b9 0) c8))))))
def Q8:EvS:=(f7 (j5 2 (x5 c6)) (f7 (A7 (iL (a6 0)) (r9 3) (a6W 2 (n9 (iR (a6 1)) [3] pt1 tT (eI (T3 (a6 1) (x5 (a7 (a6 0) c6))))))) (p7 (a6 2))))
def t7:=fnD [.f,.i] 2 Q8
abbrev Q9(B:Bk P w K mg base)(k:Nat):=HB B "one_ask_longer" k ["rows","asks"] (spD K 2 t7 (.l (.l .i)))
def a1j(B:Bk P w K mg base):Q9 B 1:=
 m9 B.d22 λ_ _ F=>fnF F ["rows","asks","found","row"] λsc _ _ _ _ _ _ _=>by exact b7 (f9 2 sc.nd (a9 (q8 (n:=0) k7))) (b7 (B7 rfl bO (l6 (PX.newf (b9 0))) (y9 3 sc.nd) T4 (λ_ _ _ _ _=>trivial) (PSsX.weak (f6 (b6D 2 (A6 rfl (tn:=["ask"]) (ys:=["row"]) (m:=.i) (C6 B.range_ (e7 1)) rfl (λ_ _ _ _ _=>o6 (i:=0) c2i rfl (bL rfl) (.inr rfl)) A5 (.inl rfl) a9C rfl (λ_ _ _ _ _=>x6) (λ_ _ _ _ _=>(MkL.i (a5E (PX.newf (b9 1)) (q8 (n:=1) (i5 (PX.newi (e7 0)) k7)))))))) n5 (m5 3))) (f6 (j7 (E3 2))))
def a5f:EvS:=(f7 (j5 2 (x5 (a7 (x5 c6) c6))) (f7 (j5 3 (x5 (a7 (x5 c6) c6))) (f7 (A7 (iR (a6 1)) (r9 4) (f7 (j5 3 (eCl t7 (a7 (a6 3) (a7 (a6 0) c6)))) (a2f 2 3))) (p7 (a6 2)))))
def a0f:=fnD [.i,.i] 3 a5f
abbrev a5g(B:Bk P w K mg base)(k:Nat):=HB B "rows_of" k ["asks","most"] (spD K 2 a0f (.l (.l .i)))
def a8T(B:Bk P w K mg base)(gM:Q9 B 1):a5g B 2:=
 m9 B.d23 λ_ _ F=>fnF F ["asks","most","found","newest","many"] λsc _ _ _ _ _ _ hr=>by exact b7 (f9 2 sc.nd (a9 (q8 (n:=1) (i5 (q8 (n:=0) k7) k7)))) (b7 (f9 3 sc.nd (a9 (q8 (n:=1) (i5 (q8 (n:=0) k7) k7)))) (b7 (b6C 2 3 4 (by decide) (by decide) (by decide) rfl rfl bO sc.nd (C6 B.range_ (e7 1)) (a6S gM hr (Z6 (a6Q) (Z6 (PXL.of (e7 0)) (a6R))) (hfl:=(m7 (m7 K2))))) (f6 (j7 (E3 2)))))
def a1N:EvS:=(p7 (eCl B8 (a7 (e2 dIx (a6 0) (eC (.int 0))) c6)))
def G6:=fnD [.f] 0 a1N
abbrev a1O(B:Bk P w K mg base)(k:Nat):=HB B "asks_of" k ["machine"] (spD K 1 G6 .i)
def a8U(B:Bk P w K mg base):a1O B 1:=
 m9 B.d24 λ_ _ F=>fnF F ["machine"] λ_ _ _ _ _ _ _ _=>by exact f6 (j7 (a9 (w6 B.len_ (t6 (PX.newf (b9 0)) b8))))
def b4B:EvS:=(f7 (j5 1 (eCl u5 (a7 (a6 0) c6))) (p7 (a5N 1 (eCl B8 (a7 (a6 0) c6)))))
def a0H:=fnD [.f] 1 b4B
abbrev b4C(B:Bk P w K mg base)(k:Nat):=HB B "ways" k ["machine"] (spD K 1 a0H (.l (.l .i)))
def b7i(B:Bk P w K mg base)(eW:K3 B 3):b4C B 4:=
 m9 B.d25 λ_ _ F=>fnF F ["machine","found"] λsc _ _ _ _ _ _ hr=>by exact b7 (f9 1 sc.nd (a9 (m4 eW hr (a8 (b9 0) c8)))) (f6 (j7 (b1F 1 rfl B.range_ (w6 B.len_ (b9 0)) (λ_ _ _ _ _=>o6 (i:=0) c2j rfl (bL rfl) (.inr rfl)) (λ_ _ _ _ _=>b6B (by exact hr.units)))))
def a7v:EvS:=(f7 (j5 3 (x5 c6)) (f7 (A7 (iI (iL (a6 2))) (r9 4) (f7 (j5 5 (e2 o8 (e2 dIx (a6 0) (a6 1)) (a6 4))) (f7 (J6 3 (.l .i) p6 (e2 o8 (a6 5) (eC (.int 0)))) (j5 1 (e2 o8 (a6 5) (eC (.int 1))))))) (p7 (K1 (a7 (a6 3) (a7 (a6 1) c6))))))
def E9:=fnD [.f,.i,.f] 3 a7v
abbrev a3T(B:Bk P w K mg base)(k:Nat):=HB B "walked" k ["machine","state","probe"] (spD K 3 E9 (.tp [(.l .i),.i]))
def b2c(B:Bk P w K mg base):a3T B 1:=
 m9 B.d26 λ_ _ F=>fnF F ["machine","state","probe","answers","ask","step"] λsc _ _ _ _ _ _ _=>by exact b7 (f9 3 sc.nd (a9 (q8 (n:=0) k7))) (b7 (B7 rfl bO (PIX.i (l6 (PX.newf (b9 2)))) (y9 4 sc.nd) a0B b1i (PSsX.weak (b7 (f9 5 sc.nd (a9 (t8 (t6 (PX.newf (b9 0)) (e7 1)) (e7 4)))) (b7 (O9 3 (E5 3) (a9 (t8 (e7 5) b8)) a0X) (f6 (f9 1 sc.nd (a9 (t8 (e7 5) b8)))))) n5 ((m5 4).trans (m5 5)))) (f6 (j7 (a9E (a0V (E3 3) (a0V (a9 (PX.newi (e7 1))) (a9D)))))))
def a0q:EvS:=(f7 (j5 2 (eCl a2M (a7 (a6 0) c6))) (f7 (j5 3 (eCl a0f (a7 (eCl G6 (a7 (a6 0) c6)) (a7 (e2 J0 (a6 1) (eC (.int 1))) c6)))) (f7 (j5 4 (eC (.dict []))) (f7 (A7 (iEn (eCl a0H (a7 (a6 0) c6))) (a3h 5 6) (A7 (iL (a6 3)) (r9 7) (A7 (iL (e2 dIx (a6 2) (e2 dIx (eCl E9 (a7 (a6 0) (a7 (a6 5) (a7 (a6 7) c6)))) (eC (.int 1))))) (r9 8) (F6 4 yn (W8 (eI (T3 (eI (T3 (a6 6) (a6 7))) (a6 8)))) (eC (.bool yn)))))) (p7 (n9 (iI (iL (a0F a0G (a6 4)))) [] pt1 tT (eI (D9 (a6 0)))))))))
def C0:=fnD [.f,.i] 7 a0q
abbrev a0r(B:Bk P w K mg base)(k:Nat):=HB B "book_probes" k ["small","extra"] (spD K 2 C0 (.l (.l .i)))
def a3U(B:Bk P w K mg base)(kY:a8S B 3)(nq:b0j B 5)(kW:a5g B 5)(ic:a1O B 5)(oN:b4C B 5)(iY:a3T B 5):a0r B 6:=
 m9 B.d27 λ_ _ F=>fnF F ["small","extra","marked","rows","found","state","way","row","mark"] λsc _ _ _ _ _ _ hr=>by exact b7 (f9 2 sc.nd (a9 (a0U nq hr (a8 (b9 0) c8) (hfl:=(m7 K2))))) (b7 (f9 3 sc.nd (a9 (m4 kW hr (a8 (m4 ic hr (a8 (b9 0) c8)) (a8 (j6 v8 (e7 1) b8) c8))))) (b7 (f9 4 sc.nd (a9 (X2 yn .i))) (b7 (PSX.weak (a5K (fi:=(iEn (eCl a0H (a7 (a6 0) c6)))) rfl bO (b9M B.enumerate_ (PX.frz (m4 oN hr (a8 (b9 0) c8)))) (a1p rfl (u8 (y9 5 sc.nd) (u8 (y9 6 sc.nd) R9))) (a8e (.inl rfl)) (λ_ _ _ _ _ e=>nomatch e) (λh=>h) (PSsX.weak (f6 (B7 rfl bO (l6 (PX.newf (b9 3))) (y9 7 sc.nd) T4 (λ_ _ _ _ _=>trivial) (PSsX.weak (f6 (B7 rfl bO (l6 (t6 (PX.newf (b9 2)) (b3o (j:=1) (m4 iY hr (a8 (b9 0) (a8 (b9 5) (a8 (b9 7) c8))))))) (y9 8 sc.nd) T4 (λ_ _ _ _ _=>trivial) (PSsX.weak (f6 (a2H 4 (by exact hr.units) (a3e B.tuple_ (MkL.i (a5E (MkL.i (a5E (PX.newf (b9 6)) (PX.newf (b9 7)))) (PX.newf (b9 8))))) (a9 Q1))) n5 (m5 8)))) n5 (m5 7)))) n5 ((m5 5).trans (m5 6)))) ((a3g 2).trans (a3g 3)) n5) (f6 (j7 (a9 (A6 rfl (tn:=["probe"]) (ys:=[]) (PIX.i (l6 (PX.frz (a7e rfl B.sorted_ kY hr (n6 4))))) rfl (λ_ _ _ _ _=>o6 (i:=0) c2g rfl (bL rfl) (.inr rfl)) A5 (.inl rfl) a4Q rfl (λ_ _ _ _ _=>x6) (λ_ _ _ _ _=>(MkL.i (Z4 B.list_ (PX.newi (e7 0))))))))))))
def a2t:EvS:=(f7 (j5 3 (eC (.int 1))) (f7 (A7 (iR (e2 J0 (a6 2) (eC (.int 1)))) (r9 4) (j5 3 (e2 J0 (e2 a0Q (a6 3) (a6 1)) (eC (.int 1))))) (p7 (e2 a0Q (e2 a0Q (a6 0) (a6 3)) (eCl (D8 yn) (a7 (e2 a3b (a6 0) (eC (.int 1))) (a7 (eC (.int 1)) c6)))))))
def O4:=fnD [.i,.i,.i] 2 a2t
abbrev a2u(B:Bk P w K mg base)(k:Nat):=HB B "book_size" k ["states","asks","extra"] (spD K 3 O4 .i)
def a5Z(B:Bk P w K mg base):a2u B 1:=
 m9 B.d28 λ_ _ F=>fnF F ["states","asks","extra","rows","many"] λsc _ _ _ _ _ _ _=>by exact b7 (f9 3 sc.nd (a9 b8)) (b7 (B7 rfl bO (C6 B.range_ (j6 v8 (e7 2) b8)) (y9 4 sc.nd) a0B b8Y (PSsX.weak (f6 (f9 3 sc.nd (a9 (j6 v8 (j6 S8 (e7 3) (e7 1)) b8)))) n5 (m5 4))) (f6 (j7 (a9 (j6 S8 (j6 S8 (e7 0) (e7 3)) (T0 (a7Z rfl) B.max_ PyProof.Rows.Boot.«max» (a8 (j6 W4 (e7 0) b8) (a8 b8 c8))))))))
def b4D:EvS:=(f7 (sEx (eCl O2 (a7 (a6 1) (a7 (eC (.int 30)) c6)))) (f7 (j5 2 (eCl U5 (a7 (a6 0) c6))) (f7 (j5 3 (eCl (D8 yn) (a7 (e2 a3b (a6 1) (eCl B8 (a7 (a6 2) c6))) (a7 (eC (.int 0)) c6)))) (f7 (sIf (tB (e2 dGt (eCl O4 (a7 (eCl B8 (a7 (a6 2) c6)) (a7 (eCl G6 (a7 (a6 0) c6)) (a7 (a6 3) c6)))) (eC (.int 3000)))) sNo z9) (f7 (j5 4 (eCl C0 (a7 (a6 2) (a7 (a6 3) c6)))) (p7 (n9 (iL (a6 4)) [0] pt1 tT (K1 (a7 (a6 0) (a7 (e2 dIx (eCl E9 (a7 (a6 1) (a7 (eC (.int 0)) (a7 (a6 0) c6)))) (eC (.int 0))) c6))))))))))
def a1P:=fnD [.f,.f] 3 b4D
abbrev b4E(B:Bk P w K mg base)(k:Nat):=HB B "book" k ["machine","most"] (spD K 2 a1P (.l (.tp [(.l .i),(.l .i)])))
def b7j(B:Bk P w K mg base)(jO:a2p B 6)(jY:a5Y B 6)(ic:a1O B 6)(iY:a3T B 6)(iQ:a0r B 6)(jQ:a2u B 6):b4E B 7:=
 m9 B.d29 λ_ _ F=>fnF F ["machine","most","small","extra","probes"] λsc _ _ _ _ _ _ hr=>by exact b7 (b6h (m4 jO hr (a8 (b9 1) (a8 (a9x B.MOST_STATES_) c8)))) (b7 (f9 2 sc.nd (a9 (m4 jY hr (a8 (b9 0) c8)))) (b7 (f9 3 sc.nd (a9 (T0 (a7Z rfl) B.max_ PyProof.Rows.Boot.«max» (a8 (j6 W4 (b9 1) (w6 B.len_ (n6 2))) (a8 b8 c8))))) (b7 (E4 (p8 a6w (m4 jQ hr (a8 (w6 B.len_ (n6 2)) (a8 (m4 ic hr (a8 (b9 0) c8)) (a8 (e7 3) c8)))) (a9x B.MOST_IN_BOOK_)) (f6 (b7W)) v9) (b7 (f9 4 sc.nd (a9 (m4 iQ hr (a8 (n6 2) (a8 (e7 3) c8))))) (f6 (j7 (c0d 4 rfl (λ_ _ _ _ _=>o6 (i:=0) c2k rfl (bL rfl) (.inr rfl)) (λ_ _ _ _ _=>y8 rfl (by first|exact bL rfl|exact bJ (bL rfl)|exact bJ (bJ rfl))) (λ_ _ _ _ _=>by exact b3o (j:=0) (m4 iY hr (a8 (b9 1) (a8 b8 (a8 (b9 0) c8))))))))))))
def b_law_wholes:EvS:=(f7 (sIf (tNo (tV (e1 (λd=>cz (.bool (isList d))) (a6 0)))) (p7 (eC (.bool yp))) z9) (f7 (A7 (iL (a6 0)) (r9 1) (sIf (P9 (tNo (tV (e1 (λd=>cz (.bool (isInt d))) (a6 1)))) (tV (e1 (λd=>cz (.bool (isBool d))) (a6 1)))) (p7 (eC (.bool yp))) z9)) (p7 (eC (.bool yn)))))
def m_law_wholes:=fnD [.f] 1 b_law_wholes
abbrev a1k(B:Bk P w K mg base)(k:Nat):=HB B "_law_wholes" k ["_law_found"] (spD K 1 m_law_wholes .i)
def ok_law_wholes(B:Bk P w K mg base):a1k B 1:=
 m9 B.d30 λ_ _ F=>fnF F ["_law_found","_law_one"] λsc _ _ _ _ _ _ _=>by exact b7 (E4 (K7 (G9 (a0z a6B B.isinstance_ B.list_ PyProof.Rows.Boot.«list» (b9 0)))) (f6 (j7 (a9 Q1))) v9) (b7 (B7 rfl bO (l6 (PX.newf (b9 0))) (y9 1 sc.nd) T4 (λ_ _ _ _ _=>trivial) (PSsX.weak (f6 (E4 (PWX.pt (O8 (K7 (G9 (a0z a9z B.isinstance_ B.int_ PyProof.Rows.Boot.«int» (b9 1)))) (S9 (G9 (a0z a6A B.isinstance_ B.bool_ PyProof.Rows.Boot.«bool» (b9 1)))))) (f6 (j7 (a9 Q1))) v9)) n5 (m5 1))) (f6 (j7 (a9 Q1))))
def b_law_answers:EvS:=(f7 (j5 2 (x5 c6)) (f7 (j5 3 (eC (.int 0))) (f7 (A7 (iI (iL (a6 1))) (r9 4) (f7 (a6F 5 3 (e2 o8 (e2 dIx (a6 0) (a6 3)) (a6 4))) (J6 2 (.l .i) p6 (a6 5)))) (p7 (a6 2)))))
def m_law_answers:=fnD [.f,.f] 4 b_law_answers
abbrev a0s(B:Bk P w K mg base)(k:Nat):=HB B "_law_answers" k ["_law_machine_here","_law_probe"] (spD K 2 m_law_answers (.l .i))
def ok_law_answers(B:Bk P w K mg base):a0s B 1:=
 m9 B.d31 λ_ _ F=>fnF F ["_law_machine_here","_law_probe","_law_answers_here","_law_state","_law_ask","_law_answer"] λsc _ _ _ _ _ _ _=>by exact b7 (f9 2 sc.nd (a9 (q8 (n:=0) k7))) (b7 (f9 3 sc.nd (a9 b8)) (b7 (B7 rfl bO (PIX.i (l6 (PX.newf (b9 1)))) (y9 4 sc.nd) a0B b1i (PSsX.weak (b7 (b6g 5 3 (u1:=.i) (u2:=.i) sc.nd rfl (a9 (t8 (t6 (PX.newf (b9 0)) (e7 3)) (e7 4))) (.inr (.inl ⟨rfl,rfl,rfl⟩)) (hg1:=u8 (y9 5 sc.nd) (u8 (y9 3 sc.nd) R9))) (f6 (O9 2 (E5 2) (a9 (PX.newi (e7 5))) a0X))) n5 ((m5 4).trans (m5 5)))) (f6 (j7 (E3 2)))))
def b_law_is_book:EvS:=(f7 (sIf (tNo (tV (e1 (λd=>cz (.bool (isList d))) (a6 0)))) (p7 (eC (.bool yp))) z9) (f7 (j5 2 (K1 (a7 (eC (.int (-1))) (a7 (x5 c6) c6)))) (f7 (A7 (iL (a6 0)) (r9 3) (f7 (sIf (P9 (tNo (tV (e1 (λd=>cz (.bool (Z3 d))) (a6 3)))) (P9 (tB (e2 dNe (eCl B8 (a7 (a6 3) c6)) (eC (.int 2)))) (P9 (tNo (tV (eCl m_law_wholes (a7 (e2 dIx (a6 3) (eC (.int 0))) c6)))) (tNo (tV (eCl m_law_wholes (a7 (e2 dIx (a6 3) (eC (.int 1))) c6))))))) (p7 (eC (.bool yp))) z9) (f7 (A7 (iL (e2 dIx (a6 3) (eC (.int 0)))) (r9 4) (sIf (P9 (tB (e2 dLt (a6 4) (eC (.int 0)))) (tB (e2 dGe (a6 4) (eCl B8 (a7 (e2 dIx (a6 1) (eC (.int 0))) c6))))) (p7 (eC (.bool yp))) z9)) (f7 (sIf (P9 (tB (e2 a8D (K1 (a7 (eCl B8 (a7 (e2 dIx (a6 3) (eC (.int 0))) c6)) (a7 (e2 dIx (a6 3) (eC (.int 0))) c6))) (a6 2))) (tB (e2 dNe (e2 dIx (a6 3) (eC (.int 1))) (eCl m_law_answers (a7 (a6 1) (a7 (e2 dIx (a6 3) (eC (.int 0))) c6)))))) (p7 (eC (.bool yp))) z9) (j5 2 (K1 (a7 (eCl B8 (a7 (e2 dIx (a6 3) (eC (.int 0))) c6)) (a7 (e2 dIx (a6 3) (eC (.int 0))) c6)))))))) (p7 (eC (.bool yn))))))
def m_law_is_book:=fnD [.f,.f] 3 b_law_is_book
abbrev a0t(B:Bk P w K mg base)(k:Nat):=HB B "_law_is_book" k ["_law_found","_law_machine_here"] (spD K 2 m_law_is_book .i)
def ok_law_is_book(B:Bk P w K mg base)(h_:a1k B 1)(iP:a0s B 1):a0t B 2:=
 m9 B.d32 λ_ _ F=>fnF F ["_law_found","_law_machine_here","_law_last","_law_row","_law_ask"] λsc _ _ _ _ _ _ hr=>by exact b7 (E4 (K7 (G9 (a0z a6B B.isinstance_ B.list_ PyProof.Rows.Boot.«list» (b9 0)))) (f6 (j7 (a9 Q1))) v9) (b7 (f9 2 sc.nd (a9E (a0V (u:=.i) (a9 (a0y)) (a0V (u:=.f) (a9 (PX.frz (q8 (n:=0) (u:=.i) k7))) (a9D))))) (b7 (B7 rfl bO (l6 (PX.newf (b9 0))) (y9 3 sc.nd) T4 (λ_ _ _ _ _=>trivial) (PSsX.weak (b7 (E4 (PWX.pt (O8 (K7 (G9 (a0z b1e B.isinstance_ B.tuple_ PyProof.Rows.Boot.«tuple» (b9 3)))) (O8 (p8 a3H (w6 B.len_ (b9 3)) b8) (O8 (K7 (G9 (m4 h_ hr (a8 (t6 (PX.newf (b9 3)) b8) c8)))) (S9 (K7 (G9 (m4 h_ hr (a8 (t6 (PX.newf (b9 3)) b8) c8))))))))) (f6 (j7 (a9 Q1))) v9) (b7 (B7 rfl bO (l6 (t6 (PX.newf (b9 3)) b8)) (y9 4 sc.nd) T4 (λ_ _ _ _ _=>trivial) (PSsX.weak (f6 (E4 (PWX.pt (O8 (p8 c1d (b9 4) b8) (S9 (p8 c1e (b9 4) (w6 B.len_ (t6 (PX.newf (b9 1)) b8)))))) (f6 (j7 (a9 Q1))) v9)) n5 (m5 4))) (b7 (E4 (PWX.pt (O8 (p8 (c0e (by exact hr.units)) (a7Y (i5 (u:=.i) (w6 B.len_ (t6 (PX.newf (b9 3)) b8)) (i5 (u:=.f) (t6 (PX.newf (b9 3)) b8) k7))) (n6 2 (u:=(.tp [.i,.f])))) (S9 (p8 a3H (t6 (PX.newf (b9 3)) b8) (m4 iP hr (a8 (b9 1) (a8 (t6 (PX.newf (b9 3)) b8) c8))))))) (f6 (j7 (a9 Q1))) v9) (f6 (f9 2 sc.nd (a9 (a7Y (i5 (u:=.i) (w6 B.len_ (t6 (PX.newf (b9 3)) b8)) (i5 (u:=.f) (t6 (PX.newf (b9 3)) b8) k7))))))))) n5 (m5 3))) (f6 (j7 (a9 Q1)))))
def b_law:EvS:=(f7 (j5 1 (eCl m_law_machine (a7 (a6 0) c6))) (f7 (j5 2 (eCl m_law_most (a7 (a6 0) (a7 (a6 1) (a7 (eCl B8 (a7 (eCl U5 (a7 (n9 (iL (a6 1)) [] pt1 tT (eI (D9 (a6 0)))) c6)) c6)) c6))))) (f7 (j5 3 (n9 (iL (a6 1)) [] pt1 tT (eI (D9 (a6 0))))) (f7 (j5 4 (eCl a1P (a7 (a6 3) (a7 (a6 2) c6)))) (f7 (sIf (P9 (tNo (tV (eCl m_law_is_book (a7 (a6 4) (a7 (a6 1) c6))))) (P9 (tB (e2 dEq (a6 4) (x5 c6))) (tB (e2 dNe (a6 3) (a6 1))))) (p7 (eC (.bool yp))) z9) (f7 (j5 5 (n9 (iL (a6 4)) [] pt2 tT (K1 (a7 (eI (D9 (a6 0))) (a7 (eI (D9 (a6 1))) c6))))) (f7 (j5 6 (e2 K0 (eCl m_law_mixed (a7 (a6 0) (a7 (eC (.int 8)) c6))) (eCl B8 (a7 (a6 4) c6)))) (f7 (J6 4 (.l (.tp [(.l .i),(.l .i)])) (pIx 4 (.l (.tp [(.l .i),(.l .i)])) (pIx 4 (.l (.tp [(.l .i),(.l .i)])) p6 (a6 6)) (eC (.int 0))) (eC (.int 0))) (f7 (J6 4 (.l (.tp [(.l .i),(.l .i)])) (pIx 4 (.l (.tp [(.l .i),(.l .i)])) (pIx 4 (.l (.tp [(.l .i),(.l .i)])) p6 (a6 6)) (eC (.int 1))) (eC (.int 0))) (f7 (sIf (P9 (tB (e2 dNe (eSl (a6 4) oNo (oSo (a6 6))) (eSl (a6 5) oNo (oSo (a6 6))))) (tB (e2 dNe (eSl (a6 4) (oSo (e2 J0 (a6 6) (eC (.int 1)))) oNo) (eSl (a6 5) (oSo (e2 J0 (a6 6) (eC (.int 1)))) oNo)))) (p7 (eC (.bool yp))) z9) (f7 (J6 4 (.l .f) p6 (e2 a6z (a6 4) (eC (.int 0)))) (f7 (j5 7 (eCl a1P (a7 (a6 3) (a7 (a6 2) c6)))) (f7 (b6i 3 (.l (.l .i)) (pIx 3 (.l (.l .i)) p6 (eC (.int 0))) (eC (.int 0)) (K1 (a7 (e2 a3b (eC (.int 7)) (e2 K0 (e2 o8 (e2 o8 (e2 dIx (a6 1) (eC (.int 0))) (eC (.int 0))) (eC (.int 0))) (eC (.int 2)))) (a7 (e2 o8 (e2 o8 (e2 dIx (a6 1) (eC (.int (-1)))) (eC (.int (-1)))) (eC (.int 1))) c6)))) (f7 (J6 3 (.l .f) p6 (e2 a6z (a6 3) (eC (.int 0)))) (p7 (e2 dEq (a6 7) (a6 5)))))))))))))))))
def m_law:=fnD [.f] 7 b_law
def ok_law(B:Bk P w K mg base)(cB:C8 B 7)(iN:a0l B 7)(kr:a3O B 7)(jY:a5Y B 7)(nr:b4E B 7)(iO:a0t B 7)(F:Fun K "law" "law" (top 49) f fd):FnOk P w K mg base CX0 8 f fd ["_law_script"] (spD K 1 m_law .i):=
 fnF F ["_law_script","_law_machine_here","_law_most_here","_law_handed","_law_found","_law_held","_law_at","_law_again"] λsc _ _ _ _ _ _ hr=>by exact b7 (f9 1 sc.nd (a9 (m4 iN hr (a8 (b9 0) c8)))) (b7 (PSX.weak (f9 2 sc.nd (a9 (m4 kr hr (a8 (b9 0) (a8 (b9 1) (a8 (w6 B.len_ (m4 jY hr (a8 (A6 rfl (tn:=["_law_row"]) (ys:=[]) (m:=.f) (l6 (PX.newf (b9 1))) rfl (λ_ _ _ _ _=>o6 (i:=0) b8c rfl (bL rfl) (.inr rfl)) A5 (.inr rfl) a4P rfl (λ_ _ _ _ _=>x6) (λ_ _ _ _ _=>(MkL.i (Z4 B.list_ (PX.newf (b9 0)))))) c8))) c8)))))) (a3g 1) n5) (b7 (a8f 3 sc.nd rfl (tn:=["_law_row"]) (ys:=[]) (l6 (PX.newf (b9 1))) rfl (λ_ _ _ _ _=>o6 (i:=0) b8c rfl (bL rfl) (.inr rfl)) A5 (.inr rfl) a4P rfl (λ_ _ _ _ _=>x6) (λ_ _ _ _ _=>(MkL.i (Z4 B.list_ (PX.newf (b9 0)))))) (b7 (f9 4 sc.nd (a9 (a0U (u:=(.l (.tp [(.l .i),(.l .i)]))) nr hr (a8 (n6 3 (u:=(.l (.l .i)))) (a8 (e7 2) c8)) (hfl:=(m7 (m7 K2)))))) (b7 (E4 (PWX.pt (O8 (K7 (G9 (m4 iO hr (a8 (n6 4 (u:=(.l (.tp [(.l .i),(.l .i)])))) (a8 (b9 1) c8))))) (O8 (p8 X7 (n6 4 (u:=(.l (.tp [(.l .i),(.l .i)])))) (q8 (n:=0) (u:=.i) k7)) (S9 (p8 a3H (n6 3 (u:=(.l (.l .i)))) (b9 1)))))) (f6 (j7 (a9 Q1))) v9) (b7 (a6V 5 (M0:=[mdF,mdF,mdI,mdF,mdF,mdD,mdD,mdD]) rfl sc.nd rfl (tn:=["_law_probe","_law_answers_here"]) (ys:=[]) (l6 (PX.newf (b9 4))) rfl (λ_ _ _ _ _=>a1p rfl (u8 (o6 (i:=0) b8d rfl (bL rfl) (.inr rfl)) (u8 (o6 (i:=1) b8d rfl (bL rfl) (.inr rfl)) R9))) a9B (.inr rfl) a4P rfl (λ_ _ _ _ _=>x6) (λ_ _ _ _ _=>(a7Y (i5 (u:=(.l .i)) (MkL.i (Z4 B.list_ (PX.newf (b9 0)))) (i5 (u:=(.l .i)) (MkL.i (Z4 B.list_ (PX.newf (b9 1)))) k7))))) (b7 (f9 6 sc.nd (a9 (j6 x4 (m4 cB hr (a8 (b9 0) (a8 b8 c8))) (w6 B.len_ (n6 4 (u:=(.l (.tp [(.l .i),(.l .i)])))))))) (b7 (O9 4 (u:=(.l (.tp [(.l .i),(.l .i)]))) (a3j (u:=(.l (.tp [(.l .i),(.l .i)]))) (a3j (u:=(.l (.tp [(.l .i),(.l .i)]))) (E5 4 (u:=(.l (.tp [(.l .i),(.l .i)])))) (e7 6)) b8) (a9 b8) (b4j (k:=0) rfl λ_=>rfl)) (b7 (O9 4 (u:=(.l (.tp [(.l .i),(.l .i)]))) (a3j (u:=(.l (.tp [(.l .i),(.l .i)]))) (a3j (u:=(.l (.tp [(.l .i),(.l .i)]))) (E5 4 (u:=(.l (.tp [(.l .i),(.l .i)])))) (e7 6)) b8) (a9 b8) (b4j (k:=1) rfl λ_=>rfl)) (b7 (E4 (PWX.pt (O8 (p8 a3H (MkL.t (W7 (n6 4 (u:=(.l (.tp [(.l .i),(.l .i)])))) W5 (W6 (e7 6)))) (MkL.t (W7 (n6 5 (u:=(.l (.tp [(.l .i),(.l .i)])))) W5 (W6 (e7 6))))) (S9 (p8 a3H (MkL.t (W7 (n6 4 (u:=(.l (.tp [(.l .i),(.l .i)])))) (W6 (j6 v8 (e7 6) b8)) W5)) (MkL.t (W7 (n6 5 (u:=(.l (.tp [(.l .i),(.l .i)])))) (W6 (j6 v8 (e7 6) b8)) W5)))))) (f6 (j7 (a9 Q1))) v9) (b7 (PSX.weak (O9 4 (u:=(.l .f)) (E5 4 (u:=(.l .f))) (a9 (PX.newf (a5D (n6 4 (u:=(.l .f))) b8))) a0X) (a9N 4) n5) (b7 (f9 7 sc.nd (a9 (a0U (u:=(.l (.tp [(.l .i),(.l .i)]))) nr hr (a8 (n6 3 (u:=(.l (.l .i)))) (a8 (e7 2) c8)) (hfl:=(m7 (m7 K2)))))) (b7 (b8X 3 (u:=(.l (.l .i))) (a3j (u:=(.l (.l .i))) (E5 3 (u:=(.l (.l .i)))) b8) b8 (a9 (a2G (n:=2) (i5 (u:=.i) (j6 W4 b8 (j6 x4 (t8 (t8 (t6 (PX.newf (b9 1)) b8) b8) b8) b8)) (i5 (u:=.i) (t8 (t8 (t6 (PX.newf (b9 1)) (a0y)) (a0y)) b8) k7)))) c1l) (b7 (PSX.weak (O9 3 (u:=(.l .f)) (E5 3 (u:=(.l .f))) (a9 (PX.newf (a5D (n6 3 (u:=(.l .f))) b8))) a0X) (a9N 3) n5) (f6 (j7 (a9 (b2Y X7 (n6 7 (u:=(.l (.tp [(.l .i),(.l .i)])))) (n6 5 (u:=(.l (.tp [(.l .i),(.l .i)])))))))))))))))))))))
end Prog
local macro_rules | `(tactic| walk_at "ev")=>`(tactic| simp -implicitDefEqProofs (disch:=first | omega | assumption | decide) only [VS.v_var,VS.v_c,VS.v_1,VS.v_2,VS.c2U,VS.b9v,VS.b7X,VS.c2V,VS.c2W,VS.c1v,VS.c1w,VS.c1x,VS.v_and,VS.v_or,VS.v_not,VS.c2X,VS.b7Y,VS.c1y,VS.Q3,VS.b3l,VS.a9I,VS.c2Y,VS.b9w,VS.c1z,VS.b3m,VS.b9x,VS.c2Q,VS.b9d,VS.c2R,VS.b6m,VS.c2S,VS.c2T,VS.b9e,VS.b9f,VS.b9g,VS.c1q,VS.c1r,VS.b9h,VS.b9i,VS.c1s,VS.c1t,VS.b9j,VS.b9k,VS.b9l,VS.b9m,VS.b9n,VS.P0,VS.b9o,VS.b9p,VS.b9q,VS.b3k,VS.b9r,VS.c1u,VS.b6n,VS.b9s,VS.b9t,VS.a9H,VS.b9u,VS.v_add,VS.v_sub,VS.v_lt,VS.c2Z,VS.c3a,VS.c3b,VS.c1A,VS.c1B,VS.b9y,VS.b9z,VS.c1C,VS.c1D,VS.c1E,VS.c1F,VS.c1G,VS.c1H,VS.v_mod,VS.v_div,VS.c3n,VS.c1P,VS.c1Q,VS.trB,VS.c1R,VS.c0g,VS.b4n,VS.b6Z,VS.b4o,VS.b4p,VS.b7a,VS.b1X,VS.a8E,VS.a8F,VS.a8G,VS.b1Y,VS.b1Z,VS.a8H,VS.a8I,VS.a7n,VS.a7o,VS.a7p,VS.a8J,VS.a8K,VS.a7q,VS.isList_list,VS.isList_int,VS.a7r,VS.isList_bool,VS.a8L,VS.isList_str,VS.isList_dict,VS.a7s,VS.isTuple_list,VS.isTuple_int,VS.a5a,VS.a9X,VS.a9Y,VS.c1S,VS.c1T,VS.b2a,VS.c3w,VS.a1f,VS.a8M,VS.c0h,VS.c0i,VS.c1V,VS.c1W,VS.c3x,VS.at0,VS.at1,VS.c2a,VS.c2b,VS.c0k,VS.b7f,VS.c2c,VS.b7g,mG,eB,nv,f_,jx,gN,bp,bx,bb,gS,Bool.not_false,mU,fQ,Bool.false_and,Bool.and_false,VS.c3o,VS.c3p,VS.c3q,VS.c3r,VS.c3s,VS.c3t,VS.c3u,VS.c3v,decide_true,decide_false,ai,ax,cZ])
namespace Prog
open PySem L2 VS
def R1{ns:List Int}{j:Int}(a:0<=j)(b:j<ns.length):L2.atI (ns.map aK) j=cz (.int (ns.getD j.toNat 0)):=by
 rw[X1 a (by rw[ai];exact b),dF];rw[af,ab (by lia)];rfl
end Prog
local macro_rules | `(tactic| walk_at "evm")=>`(tactic| first | (walk_at "ev";repeat (simp -implicitDefEqProofs (disch:=first | omega | assumption | decide) only [VS.a1y,VS.a5G];try walk_at "ev")) | (simp -implicitDefEqProofs (disch:=first | omega | assumption | decide) only [VS.a1y,VS.a5G];repeat (first | walk_at "ev" | simp -implicitDefEqProofs (disch:=first | omega | assumption | decide) only [VS.a1y,VS.a5G])))
namespace Prog
open PySem L2 VS
def a7w(ns:List Int)(k:Int):Int:=((if 0<ns.length then ns.getD (k % (ns.length:Int)).toNat 0 else 3) % 2147483629+7919*k+1)*48271 % 2147483647
def F5(ns:List Int)(k:Int):Int:=a7w ns k*(a7w ns k % 65521+k+2) % 2147483629
def c0n(ns:List Int)(k:Int):0<=a7w ns k/\a7w ns k<2147483647:=⟨fG _ (by decide),eM _ (by decide)⟩
def b7k(ns:List Int)(k:Int):0<=F5 ns k:=fG _ (by decide)
def atI_nums{ns:List Int}{j:Int}(a:0<=j)(b:j<ns.length):L2.atI (ns.map aK) j=cz (.int (ns.getD j.toNat 0)):=by
 rw[X1 a (by rw[ai];exact b),dF];rw[af,ab (by lia)];rfl
def a3V(ns:List Int)(k:Int)(h0:0<=k)(h1:k<=1000):m_law_mixed [.list (ns.map .int),.int k]=cz (.int (F5 ns k)):=by
 unfold m_law_mixed;rw[A8 (by simp[VS.argsOk,imm])];unfold b_law_mixed;walk_at "evm";have hr:=c0n ns k;by_cases c:0<ns.length
 ·rw[aW (by lia:(0:Int)<ns.length)];walk_at "evm";rw[atI_nums (fG _ (by lia)) (eM _ (by lia))];walk_at "evm";have e:a7w ns k=(ns.getD (k % (ns.length:Int)).toNat 0 % 2147483629+7919*k+1)*48271 % 2147483647:=by unfold a7w;rw[aB c]
  rw[<-e]
  try walk_at "evm"
  rfl
 ·rw[bg (by lia:¬ (0:Int)<ns.length)];walk_at "evm";have e:a7w ns k=(3 % 2147483629+7919*k+1)*48271 % 2147483647:=by unfold a7w;rw[aJ c]
  rw[<-e]
  try walk_at "evm"
  rfl
end Prog
namespace VS
open PySem L2
abbrev Ky:=List (Int×Int)
def snoc_ind{P:List α->Prop}(h0:P [])(h1:∀l x,P l->P (l++[x]))(l:List α):P l:=by
 have h:∀r:List α,P r.reverse:=by
  intro r
  induction r with
  |nil=>exact h0
  |cons x r ih=>rw[kg];exact h1 _ _ ih
 have:=h l.reverse
 rwa[List.reverse_reverse]at this
def a4x(seen:List Ky)(x:Ky):List Ky:=if x∈seen then seen else seen++[x]
def ded(ks:List Ky):List Ky:=ks.foldl a4x []
def J9(ks:List Ky)(x:Ky):ded (ks++[x])=a4x (ded ks) x:=by unfold ded;rw[ki];rfl
def H9(h:x∈s):a4x s x=s:=aB h
def F0(h:x∉s):a4x s x=s++[x]:=aJ h
def b4F:y∈a4x s x↔y∈s\/y=x:=by
 by_cases h:x∈s
 ·rw[H9 h];exact⟨bL,λz=>z.elim id λe=>e▸h⟩
 ·rw[F0 h];simp
def U6:y∈ded ks↔y∈ks:=by
 induction ks using snoc_ind with
 |h0=>simp[ded]
 |h1 l x ih=>rw[J9,b4F,ih];simp
def b0k(ks:List Ky):(ded ks).length<=ks.length:=by
 induction ks using snoc_ind with
 |h0=>simp[ded]
 |h1 l x ih=>
  rw[J9,aA,cx];by_cases h:x∈ded l
  ·rw[H9 h];lia
  ·rw[F0 h,aA,cx];lia
def b4G(h:y∈s):(a4x s x).idxOf y=s.idxOf y:=by
 by_cases c:x∈s
 ·rw[H9 c]
 ·rw[F0 c,kh,aB h]
def b7l{s:List Ky}{x y:Ky}(hx:x∈s)(h:s.idxOf x=s.idxOf y):x=y:=by
 have h1:=cm.mpr hx;have e1:s[s.idxOf x]'h1=x:=dX h1;have h2:s.idxOf y<s.length:=by rw[<-h];exact h1
 have e2:s[s.idxOf y]'h2=y:=dX h2;rw[<-e1,<-e2]
 congr 1
def b0l(h:ks≠[]):∃x∈ks,(ded ks).idxOf x+1=(ded ks).length:=by
 induction ks using snoc_ind with
 |h0=>exact absurd rfl h
 |h1 l x ih=>
  rw[J9];by_cases c:x∈ded l
  ·have hl:l≠[]:=λe=>by subst e;simp[ded]at c
   obtain⟨y,hy,e⟩:=ih hl;exact⟨y,aj _ hy,by rw[H9 c];exact e⟩
  ·refine⟨x,by simp,?_⟩;rw[F0 c,kh,aJ c,aA];simp
def a1Q(ks:List Ky):List Int:=ks.map λx=>(((ded ks).idxOf x:Nat):Int)
def a7x(ks:List Ky):(a1Q ks).length=ks.length:=ai ..
def b2d{α:Type}(f g:α->Ky)(ps:List α):(∀p∈ps,∀q∈ps,g p=g q->f p=f q)->(ded (ps.map f)).length<=(ded (ps.map g)).length/\((ded (ps.map g)).length<=(ded (ps.map f)).length->∀p∈ps,∀q∈ps,f p=f q->g p=g q):=by
 induction ps using snoc_ind with
 |h0=>exact λ_=>⟨ay _,λ_ p hp=>nomatch hp⟩
 |h1 l x ih=>
  intro h;obtain⟨i1,i2⟩:=ih λp hp q hq=>h p (aj _ hp) q (aj _ hq)
  rw[aO,aO,cy,cy,J9,J9];have hx:x∈l++[x]:=by simp
  by_cases cg:g x∈ded (l.map g)
  ·obtain⟨q,hq,eq⟩:=aI.mp (U6.mp cg);have BJ:f q=f x:=h q (aj _ hq) x hx eq;have cf:f x∈ded (l.map f):=U6.mpr (aI.mpr ⟨q,hq,BJ⟩);rw[H9 cg,H9 cf];refine⟨i1,λhle p hp r hr e=>?_⟩;have key:∀p∈l,f p=f x->g p=g x:=λp hp e=>(i2 hle p hp q hq (e.trans BJ.symm)).trans eq
   rcases ao.mp hp with z|z<;>rcases ao.mp hr with y|y
   ·exact i2 hle p z r y e
   ·cases aq.mp y;exact key p z e
   ·cases aq.mp z;exact (key r y e.symm).symm
   ·cases aq.mp z;cases aq.mp y;rfl
  ·by_cases cf:f x∈ded (l.map f)
   ·rw[H9 cf,F0 cg,aA,cx];exact⟨by lia,λhle=>by lia⟩
   ·rw[F0 cf,F0 cg,aA,aA,cx,cx];refine⟨by lia,λhle p hp r hr e=>?_⟩;have no:∀p∈l,f p≠f x:=λp hp e=>cf (U6.mpr (aI.mpr ⟨p,hp,e⟩))
    rcases ao.mp hp with z|z<;>rcases ao.mp hr with y|y
    ·exact i2 (by lia) p z r y e
    ·cases aq.mp y;exact absurd e (no p z)
    ·cases aq.mp z;exact absurd e.symm (no r y)
    ·cases aq.mp z;cases aq.mp y;rfl
def rn(r:Ky)(ls:List Int):Ky:=r.map λp=>(p.1,ls.getD p.2.toNat 0)
def a1R(r:Ky)(ls:List Int):(rn r ls).length=r.length:=ai ..
def lvl(m:i8):Nat->List Int
 |0=>m.map λ_=>0
 |d+1=>a1Q (m.map λr=>rn r (lvl m d))
def kf(m:i8):Nat->Ky->Ky
 |0,_=>[]
 |d+1,r=>rn r (lvl m d)
def cls(m:i8)(d:Nat):Nat:=(ded (m.map (kf m d))).length
def lv(m:i8)(d:Nat)(s:Int):Int:=(lvl m d).getD s.toNat 0
def U7(m:i8):∀d,(lvl m d).length=m.length
 |0=>ai ..
 |d+1=>by unfold lvl;rw[a7x,ai]
def z7(m:i8)(s:Int):lv m 0 s=0:=by
 unfold lv lvl;rw[af,aQ];cases m[s.toNat]?<;>rfl
def b0m{m:i8}{d:Nat}{s:Int}(h0:0<=s)(h1:s<m.length):lv m (d+1) s=(((ded (m.map (kf m (d+1)))).idxOf (rn (rowAt m s) (lvl m d)):Nat):Int):=by
 have h2:s.toNat<m.length:=by lia
 show (a1Q (m.map λr=>rn r (lvl m d))).getD s.toNat 0=_;unfold a1Q rowAt;rw[af,aQ,aQ,af,ab h2];rfl
def a6a{m:i8}{d:Nat}{s t:Int}(h0:0<=s)(h1:s<m.length)(h2:0<=t)(h3:t<m.length):lv m (d+1) s=lv m (d+1) t↔rn (rowAt m s) (lvl m d)=rn (rowAt m t) (lvl m d):=by
 rw[b0m h0 h1,b0m h2 h3];refine⟨λh=>?_,λh=>by rw[h]⟩;exact b7l (U6.mpr (aI.mpr ⟨_,G5 h0 h1,rfl⟩)) (Int.ofNat_inj.mp h)
def c2l{r r':Ky}{ls:List Int}(hl:r.length=r'.length):rn r ls=rn r' ls↔∀a:Nat,a<r.length->(r.getD a (0,0)).1=(r'.getD a (0,0)).1/\ls.getD (r.getD a (0,0)).2.toNat 0=ls.getD (r'.getD a (0,0)).2.toNat 0:=by
 unfold rn
 constructor
 ·intro h a ha;have e:(r.map λp=>(p.1,ls.getD p.2.toNat 0))[a]?=(r'.map λp=>(p.1,ls.getD p.2.toNat 0))[a]?:=by rw[h]
  rw[aQ,aQ,ab ha,ab (by lia)]at e;rw[af,af,ab ha,ab (by lia)];simp only[pN,nX,Prod.mk.injEq]at e;exact e
 ·intro h;refine iT (by rw[ai,ai,hl]) λa h1 h2=>?_
  rw[ai]at h1 h2;have:=h a h1;rw[af,af,ab h1,ab h2]at this;rw[dF,dF];exact Prod.ext this.1 this.2
def L4{m:i8}{k d:Nat}(w:WF m k){s t:Int}(h0:0<=s)(h1:s<m.length)(h2:0<=t)(h3:t<m.length) :
  lv m (d+1) s=lv m (d+1) t↔∀a:Int,0<=a->a<k->(stp m s a).1=(stp m t a).1/\lv m d (stp m s a).2=lv m d (stp m t a).2:=by
 rw[a6a h0 h1 h2 h3,c2l (by rw[w.row h0 h1,w.row h2 h3]),w.row h0 h1];refine⟨λh a a0 a1=>h a.toNat (by lia),λh a ha=>?_⟩;have:=h a (by lia) (by lia);unfold stp lv at this
 rwa[bK]at this
theorem a6b{m:i8}{k:Nat}(w:WF m k):∀(d:Nat) {s t:Int},0<=s->s<m.length->0<=t->t<m.length->lv m (d+1) s=lv m (d+1) t->lv m d s=lv m d t
 |0,s,t,_,_,_,_,_=>by rw[z7,z7]
 |d+1,s,t,h0,h1,h2,h3,h=>by
  rw[L4 w h0 h1 h2 h3]at h ⊢;intro a a0 a1;have ha:=h a a0 a1;have n1:=w.nx h0 h1 a0 a1;have n2:=w.nx h2 h3 a0 a1;exact⟨ha.1,a6b w d n1.1 n1.2 n2.1 n2.2 ha.2⟩
def b4H{m:i8}{r:Ky}(h:r∈m):∃s:Int,0<=s/\s<m.length/\rowAt m s=r:=by
 obtain⟨i,hi,e⟩:=List.getElem_of_mem h;refine⟨i,by lia,by lia,?_⟩;unfold rowAt;rw[bK,af,ab hi];exact e
def b8e{m:i8}{d:Nat}{s t:Int}(h0:0<=s)(h1:s<m.length)(h2:0<=t)(h3:t<m.length):kf m d (rowAt m s)=kf m d (rowAt m t)↔lv m d s=lv m d t:=by
 cases d with
 |zero=>rw[z7,z7];exact⟨λ_=>rfl,λ_=>rfl⟩
 |succ d=>rw[a6a h0 h1 h2 h3];rfl
def b4I{m:i8}{k:Nat}(w:WF m k)(d:Nat):cls m d<=cls m (d+1)/\(cls m (d+1)<=cls m d->∀s t:Int,0<=s->s<m.length->0<=t->t<m.length->lv m d s=lv m d t->lv m (d+1) s=lv m (d+1) t):=by
 obtain⟨c1,c2⟩:=b2d (kf m d) (kf m (d+1)) m λp hp q hq e=>by
  obtain⟨s,h0,h1,rfl⟩:=b4H hp;obtain⟨t,h2,h3,rfl⟩:=b4H hq;rw[b8e h0 h1 h2 h3]at e ⊢;exact a6b w d h0 h1 h2 h3 e
 refine⟨c1,λhc s t h0 h1 h2 h3 e=>?_⟩;rw[<-b8e h0 h1 h2 h3]at e ⊢;exact c2 hc _ (G5 h0 h1) _ (G5 h2 h3) e
def b0n(m:i8)(d:Nat):cls m d<=m.length:=by
 have:=b0k (m.map (kf m d));rw[ai]at this;exact this
def a1l(w:WF m k)(d:Nat):1<=cls m d:=by
 have hm:m≠[]:=λe=>by have:=w.pos;rw[e]at this;exact absurd this (by decide)
 obtain⟨x,_,e⟩:=b0l (ks:=m.map (kf m d)) (λe=>hm (xY.mp e));unfold cls;lia
def fp:Ky->Ky->Nat
 |x::xs,y::ys=>if x=y then fp xs ys+1 else 0
 |_,_=>0
theorem a6c:∀{r r':Ky},r.length=r'.length->r≠r'->fp r r'<r.length/\r.getD (fp r r') (0,0)≠r'.getD (fp r r') (0,0)/\∀i<fp r r',r.getD i (0,0)=r'.getD i (0,0)
 |[],[],_,h=>absurd rfl h
 |[],_::_,h,_=>by simp at h
 |_::_,[],h,_=>by simp at h
 |x::xs,y::ys,hl,h=>by
  by_cases c:x=y
  ·subst c;have ih:=a6c (r:=xs) (r':=ys) (by simpa using hl) (λe=>h (by rw[e]));have e:fp (x::xs) (x::ys)=fp xs ys+1:=aB rfl;rw[e];refine⟨by rw[aS];lia,?_,λi hi=>?_⟩
   ·rw[eB,eB];exact ih.2.1
   ·cases i with
    |zero=>rfl
    |succ i=>rw[eB,eB];exact ih.2.2 i (by lia)
  ·have e:fp (x::xs) (y::ys)=0:=aJ c;rw[e];exact⟨by rw[aS];lia,by rw[mG,mG];exact c,λi hi=>absurd hi (by lia)⟩
def fa(m:i8)(d:Nat)(s t:Int):Int:=(fp (rn (rowAt m s) (lvl m d)) (rn (rowAt m t) (lvl m d)):Nat)
def a6d{r:Ky}(h:i<r.length):(rn r ls).getD i (0,0)=((r.getD i (0,0)).1,ls.getD (r.getD i (0,0)).2.toNat 0):=by
 unfold rn;rw[af,aQ,ab h,af,ab h];rfl
def b0o{m:i8}{k d:Nat}(w:WF m k){s t:Int}(h0:0<=s)(h1:s<m.length)(h2:0<=t)(h3:t<m.length)(h:lv m (d+1) s≠lv m (d+1) t) :
  (0<=fa m d s t/\fa m d s t<k)/\((stp m s (fa m d s t)).1≠(stp m t (fa m d s t)).1\/lv m d (stp m s (fa m d s t)).2≠lv m d (stp m t (fa m d s t)).2)/\
  ∀a:Int,0<=a->a<fa m d s t->(stp m s a).1=(stp m t a).1/\lv m d (stp m s a).2=lv m d (stp m t a).2:=by
 have l1:=w.row h0 h1;have l2:=w.row h2 h3;rw[ne_eq,a6a h0 h1 h2 h3]at h;obtain⟨f1,f2,f3⟩:=a6c (r:=rn (rowAt m s) (lvl m d)) (r':=rn (rowAt m t) (lvl m d)) (by rw[a1R,a1R,l1,l2]) h;rw[a1R,l1]at f1;refine⟨⟨by unfold fa;lia,by unfold fa;lia⟩,?_,λa a0 a1=>?_⟩
 ·rw[a6d (by lia),a6d (by lia)]at f2;unfold stp lv fa;rw[bK];by_cases c:((rowAt m s).getD (fp (rn (rowAt m s) (lvl m d)) (rn (rowAt m t) (lvl m d))) (0,0)).1=((rowAt m t).getD (fp (rn (rowAt m s) (lvl m d)) (rn (rowAt m t) (lvl m d))) (0,0)).1
  ·exact .inr λe=>f2 (Prod.ext c e)
  ·exact .inl c
 ·unfold fa at a1;have:=f3 a.toNat (by lia);rw[a6d (by lia),a6d (by lia)]at this;unfold stp lv;have e1:=dE Prod.fst this;have e2:=dE Prod.snd this;exact⟨e1,e2⟩
def fu(m:i8):Nat->Int->Int->List Int
 |0,_,_=>[]
 |d+1,s,t=>fa m d s t::fu m d (stp m s (fa m d s t)).2 (stp m t (fa m d s t)).2
theorem b4J(m:i8):∀(d:Nat) (s t:Int),(fu m d s t).length=d
 |0,_,_=>rfl
 |d+1,s,t=>by show (fu m d _ _).length+1=_;rw[b4J m d]
theorem a3W(hp:∀d,p (d+1)=yn->p d=yn):∀N:Nat,∃c,(az N).countP p=c/\c<=N/\(∀d<c,p d=yn)/\∀d,c<=d->d<N->p d=yp
 |0=>⟨0,rfl,ay _,λd h=>absurd h (by lia),λd _ h=>absurd h (by lia)⟩
 |N+1=>by
  obtain⟨c,e,hc,h1,h2⟩:=a3W hp N;rw[jr,List.countP_append,e];by_cases cN:p N=yn
  ·have Ei:c=N:=by
    rcases dH c N with z|z
    ·have down:∀j i,i+j=N->p i=yn:=by
      intro j
      induction j with
      |zero=>intro i e;rw[show i=N by lia];exact cN
      |succ j ih=>intro i e;exact hp i (ih (i+1) (by lia))
     have:=h2 c (ay _) z;rw[down (N-c) c (by lia)]at this;cases this
    ·lia
   subst Ei;refine⟨c+1,by simp[cN],ay _,λd hd=>?_,λd hd jX=>absurd jX (by lia)⟩;rcases dH d c with z|z
   ·exact h1 d z
   ·rw[show d=c by lia];exact cN
  ·refine⟨c,by simp[cN],by lia,h1,λd hd jX=>?_⟩;rcases dH d N with z|z
   ·exact h2 d hd z
   ·rw[show d=N by lia];simpa using cN
def c0o:a9J [.dict kvs]=cz (.int kvs.length):=rfl
def a6e{Z ds:List D}(h:a Z=cz (.list ds))(hi:c9 ds=yn):W8 a Z=cz (.tuple ds):=by
 unfold W8;rw[h];exact b3n (by simp only[imm];exact hi)
def c0p{Z:List D}(hk:fk Z=cz k)(he:fe Z=cz e)(hd:Z.getD i .none=.dict kvs)(hK:s9 kt k=yn)(hl:kvs.length<1000000)(hs:scal e=yn)(hj:Z.getD j .none=.list ds)(gO:i≠j)(pI:ds.length<1000000) :
  a6O j (V3 i kt fk fe) Z=cz (.nx ((Z.set i (.dict (C4 kvs k e))).set j (.list (ds++[(v6 kvs k).getD e])))):=by
 have hx:V3 i kt fk fe Z=cz ((v6 kvs k).getD e,Z.set i (.dict (C4 kvs k e))):=by
  unfold V3;rw[hk];show (fe Z).bind _=_;rw[he];show (match Z.getD i .none with|.dict kvs=>_|_=>_)=_;rw[hd];show (if _ then _ else _)=_;rw[aB (by rw[hK,aW hl,hs];rfl)]
 have DM:(Z.set i (.dict (C4 kvs k e))).getD j .none=.list ds:=by
  rw[<-hj,af,af,bI gO]
 unfold a6O;rw[hx];show (match (Z.set i (.dict (C4 kvs k e))).getD j .none with|.list ds=>_|_=>_)=_;rw[DM];show (if _ then _ else _)=_;rw[aB pI]
theorem a2N{I:Nat->List D->Prop}{Q:List D->Prop}(B:Nat)(step:∀j Z,I j Z->j<=B/\((c Z=cz yp/\Q Z)\/(c Z=cz yn/\∃Z',g Z=cz (.nx Z')/\I (j+1) Z'))):∀n j Z,I j Z->B<n+j->∃Z',whL c g n Z=cz (.nx Z')/\Q Z'
 |0,j,Z,h,hn=>absurd (step j Z h).1 (by lia)
 |n+1,j,Z,h,hn=>by
  rcases (step j Z h).2 with⟨e,q⟩|⟨e,Z',e2,h2⟩
  ·refine⟨Z,?_,q⟩;show (c Z).bind _=_;rw[e];rfl
  ·obtain⟨Z2,e3,q⟩:=a2N B step n (j+1) Z' h2 (by lia);refine⟨Z2,?_,q⟩;show (c Z).bind _=_;rw[e];show (g Z).bind _=_;rw[e2];exact e3
def c0q{Z:List D}:sWh (λ_=>n) c g Z=whL c g n Z:=rfl
def c3H{Z ds:List D}(h:a Z=cz (.list ds)):iRv a Z=cz ds.reverse:=by
 unfold iRv;rw[h];rfl
def b4K(p q:Int×Int):aF (stD p) (stD q)=decide (p=q):=by
 unfold stD;simp only[aF,bN,a2L];rcases p with⟨a,b⟩
 rcases q with⟨c,d⟩
 by_cases h1:a=c<;>by_cases h2:b=d<;>simp[h1,h2]
theorem b0p:∀xs ys:Ky,bN (xs.map stD) (ys.map stD)=decide (xs=ys)
 |[],[]=>by simp[bN]
 |[],_::_=>by simp[bN]
 |_::_,[]=>by simp[bN]
 |x::xs,y::ys=>by
  simp only[ax,bN,b4K,b0p xs ys,gi];by_cases h1:x=y<;>by_cases h2:xs=ys<;>simp[h1,h2]
def c0r:dEq (stD p) (stD q)=cz (.bool (decide (p=q))):=by
 rw[a9Z (a8P p) (a8P q) (cF (a3L p) (by decide)),b4K]
def R6(x:Ky):D:=.tuple (x.map stD)
def a7y(x y:Ky):aF (R6 x) (R6 y)=decide (x=y):=by
 unfold R6;simp only[aF];exact b0p x y
theorem a3X:∀x:Ky,o7 (x.map stD)=yn
 |[]=>rfl
 |p::x=>by
  show (B6 (stD p)&&o7 (x.map stD))=yn;rw[a3X x];rfl
def b2e(x:Ky):s9 yn (R6 x)=yn:=by
 have h1:B6 (R6 x)=yn:=a3X x;have h2:(R6 x).depth<=7:=by
  unfold R6;simp only[dN];have:=G0 stD 1 a3L x;lia
 unfold s9;rw[h1,aW h2];rfl
def dz:List Ky->Nat->List (D×D)
 |[],_=>[]
 |x::xs,i=>(R6 x,.int i)::dz xs (i+1)
theorem a8V:∀(s:List Ky) (i:Nat),(dz s i).length=s.length
 |[],_=>rfl
 |x::s,i=>by show (dz s (i+1)).length+1=_;rw[a8V s];rfl
theorem b0q:∀(s:List Ky) (x:Ky) (i:Nat),dz (s++[x]) i=dz s i++[(R6 x,.int ((i+s.length:Nat):Int))]
 |[],x,i=>rfl
 |y::s,x,i=>by
  show (R6 y,aK i)::dz (s++[x]) (i+1)=_;rw[b0q s x (i+1)];show _=(R6 y,aK i)::(dz s (i+1)++_);rw[aS,gj,jH 1]
theorem b0r:∀(s:List Ky) (x:Ky) (i:Nat),K9 (dz s i) (R6 x)=decide (x∈s)
 |[],x,i=>by simp[K9,dz]
 |y::s,x,i=>by
  have ih:=b0r s x (i+1);unfold K9 at ih ⊢;show (aF (R6 y) (R6 x)||(dz s (i+1)).any _)=_;rw[ih,a7y];by_cases h:y=x
  ·simp[h]
  ·have:¬ x=y:=λe=>h e.symm
   simp[h,this]
theorem b0s:∀(s:List Ky) (x:Ky) (i:Nat),v6 (dz s i) (R6 x)=if x∈s then cz (.int ((i+s.idxOf x:Nat):Int)) else xn
 |[],x,i=>by simp[v6,dz]
 |y::s,x,i=>by
  have ih:=b0s s x (i+1);unfold v6 at ih ⊢;show (List.find? _ ((R6 y,aK i)::dz s (i+1))).map _=_;rw[ju,a7y];by_cases h:y=x
  ·subst h;simp
  ·have h':¬ x=y:=λe=>h e.symm
   rw[bg h];show Ak _ (List.find? _ (dz s (i+1)))=_;rw[ih];have e:(y::s).idxOf x=s.idxOf x+1:=by
    rw[List.idxOf_cons,beq_false_of_ne h];rfl
   rw[e,gj,jH 1];by_cases c:x∈s
   ·rw[aB c,aB (aw _ c)]
   ·rw[aJ c,aJ (by simp[h',c])]
def b7m(s:List Ky)(x:Ky):C4 (dz s 0) (R6 x) (.int (s.length:Nat))=dz (a4x s x) 0:=by
 unfold C4;rw[b0r];by_cases c:x∈s
 ·rw[aW c,aB rfl,H9 c]
 ·rw[bg c,aJ (by decide),F0 c,b0q,ip]
def b7n(s:List Ky)(x:Ky):(v6 (dz s 0) (R6 x)).getD (.int (s.length:Nat))=.int (((a4x s x).idxOf x:Nat):Int):=by
 rw[b0s];by_cases c:x∈s
 ·rw[aB c,H9 c,ip];rfl
 ·rw[aJ c,F0 c,kh,aJ c];simp
theorem a1S:∀(r:List Int) (i:Int),Q4 i r∈i::r/\∀x∈i::r,x<=Q4 i r
 |[],i=>⟨by simp[Q4],λx hx=>by simp at hx;rw[hx];exact xb _⟩
 |y::r,i=>by
  have e:Q4 i (y::r)=Q4 (if y>i then y else i) r:=rfl;rw[e];by_cases c:y>i
  ·rw[aB c];obtain⟨h1,h2⟩:=a1S r y;refine⟨aw _ h1,λx hx=>?_⟩;rcases aD.mp hx with z|z
   ·have:=h2 y (by simp);lia
   ·exact h2 x z
  ·rw[aJ c];obtain⟨h1,h2⟩:=a1S r i;refine⟨?_,λx hx=>?_⟩
   ·rcases aD.mp h1 with z|z
    ·rw[z];simp
    ·exact aw _ (aw _ z)
   ·rcases aD.mp hx with z|z
    ·rw[z];exact h2 i (by simp)
    ·rcases aD.mp z with y'|y'
     ·have:=h2 i (by simp);lia
     ·exact h2 x (aw _ y')
def b4L{ns:List Int}(h1:n∈ns)(h2:∀x∈ns,x<=n):a0k [.list (ns.map .int)]=cz (.int n):=by
 show (intsOf (ns.map aK)).bind _=_;rw[N1];cases ns with
 |nil=>cases h1
 |cons i r=>
  obtain⟨g1,g2⟩:=a1S r i;have a:=h2 _ g1;have b:=g2 _ h1;show cz (aK (Q4 i r))=_;rw[show Q4 i r=n by lia]
def b7o(h:ks≠[]):a0k [.list ((a1Q ks).map .int)]=cz (.int ((ded ks).length-1)):=by
 obtain⟨x,hx,e⟩:=b0l h;refine b4L ?_ λy hy=>?_
 ·exact aI.mpr ⟨x,hx,by lia⟩
 ·obtain⟨z,hz,rfl⟩:=aI.mp hy;have:=cm.mpr (U6.mpr hz);lia
def b0t(w:WF m k):∀d,a0k [.list ((lvl m d).map .int)]=cz (.int (cls m d-1))
 |0=>by
  have hm:m≠[]:=λe=>by have:=w.pos;rw[e]at this;exact absurd this (by decide)
  have hc:cls m 0=1:=by
   have h1:=a1l w 0;unfold cls at h1 ⊢;have:∀l:i8,(ded (l.map (kf m 0))).length<=1:=by
    intro l
    induction l using snoc_ind with
    |h0=>simp[ded]
    |h1 l x ih=>
     rw[aO,cy,J9];by_cases c:kf m 0 x∈ded (l.map (kf m 0))
     ·rw[H9 c];exact ih
     ·have:l=[]:=by
       cases l with
       |nil=>rfl
       |cons y l=>exact absurd (U6.mpr (aI.mpr ⟨y,by simp,rfl⟩)) c
      subst this;simp[a4x,ded]
   have:=this m;lia
  rw[hc];refine b4L ?_ λy hy=>?_
  ·cases m with
   |nil=>exact absurd rfl hm
   |cons r m=>exact aI.mpr ⟨r,by simp,rfl⟩
  ·obtain⟨z,_,rfl⟩:=aI.mp hy
   decide
 |d+1=>by
  have hm:m≠[]:=λe=>by have:=w.pos;rw[e]at this;exact absurd this (by decide)
  exact b7o (ks:=m.map λr=>rn r (lvl m d)) λe=>hm (xY.mp e)
def v_count{bs:List Bool}:a3p (.list (bs.map .bool)) (.bool yn)=cz (.int (bs.countP id)):=by
 have h1:aY (bs.map cV)=yn:=a0b _ (λx=>by simp only[cE]) bs;show (if (aY (bs.map cV)&&(cV yn).canLay0&&decide ((cV yn).depth<=60))=yn then cz (aK ((bs.map cV).countP λd=>aF d (.bool yn))) else xn)=_;rw[h1,aB (by simp[cE,dN])];rw[Gv]
 congr 3
 congr 1
 funext b
 cases b<;>rfl
def b4M{ns:List Int}:lIs (cz (.list (ns.map .int)))=cz (.list (ns.map .int)):=a9X (m6 _ (λ_=>T6) ns)
def c3I{Z ds:List D}{j:Int}(h:Z.getD i .none=.list ds)(hj:fj Z=cz (.int j))(h0:0<=j)(h1:j<ds.length):pIx i (.l t) p6 fj Z=cz [j.toNat]:=by
 unfold pIx p6;rw[h];show (fj Z).bind _=_;rw[hj];show (ixN ds.length j).bind _=_;rw[a3M h0 h1];rfl
theorem a5h(f:α->D):∀{xs:List α},(∀x∈xs,∃bs,pt (enc x)=cz bs/\g (bs++cs)=cz (f x))->M8 pt tT g cs (xs.map enc)=cz (xs.map f)
 |[],_=>rfl
 |x::xs,h=>by
  obtain⟨bs,h1,h2⟩:=h x aL;have ih:=a5h f (xs:=xs) λe he=>h e (aw _ he)
  show (pt (enc x)).bind _=_;rw[h1];show (g (bs++cs)).bind _=_;rw[h2];show (M8 pt tT g cs (xs.map enc)).bind _=_;rw[ih];rfl
def L5{js:List Nat}{Z:List D}{xs:List α}(f:α->D)(hf:fi Z=cz (xs.map enc))(hl:xs.length<=1000000)(h:∀x∈xs,∃bs,pt (enc x)=cz bs/\g (bs++js.map λj=>Z.getD j .none)=cz (f x)) :
  n9 fi js pt tT g Z=cz (.list (xs.map f)):=by
 unfold n9;rw[hf];show (if (xs.map enc).length<=1000000 then _ else xn)=_;rw[aB (by rw[ai];exact hl),a5h f h];rfl
theorem a2v:∀(ls:List Int) (k:Nat),F9 (ls.map .int) k=(az ls.length).map λ(s:Nat)=>cI [.int ((k+s:Nat):Int),.int (ls.getD s 0)]
 |[],_=>rfl
 |n::ls,k=>by
  show cI [.int k,.int n]::F9 (ls.map .int) (k+1)=_;rw[a2v ls (k+1),aS,uj,ax,bC]
  congr 1;refine bH λs _=>?_
  show cI [.int ((k+1+s:Nat):Int),.int (ls.getD s 0)]=.tuple [.int ((k+(s+1):Nat):Int),.int ((n::ls).getD (s+1) 0)];rw[eB,gj,jH 1]
def c0s{Z ds:List D}(h:a Z=cz (.list ds)):iEn a Z=cz (F9 ds 0):=by
 unfold iEn;rw[h];rfl
def c2m{Z:List D}(hk:fk Z=cz k)(he:fe Z=cz e)(hd:Z.getD i .none=.dict kvs)(hK:s9 kt k=yn)(hl:kvs.length<1000000)(hs:scal e=yn) :
  b3v (V3 i kt fk fe) Z=cz (.nx (Z.set i (.dict (C4 kvs k e)))):=by
 have hx:V3 i kt fk fe Z=cz ((v6 kvs k).getD e,Z.set i (.dict (C4 kvs k e))):=by
  unfold V3;rw[hk];show (fe Z).bind _=_;rw[he];show (match Z.getD i .none with|.dict kvs=>_|_=>_)=_;rw[hd];show (if _ then _ else _)=_;rw[aB (by rw[hK,aW hl,hs];rfl)]
 unfold b3v;rw[hx];rfl
section
variable {β α:Type}[DecidableEq β]
def dd1(W:List (β×α))(c:β×α):List (β×α):=if c.1∈W.map (·.1) then W else W++[c]
def dd(W C:List (β×α)):List (β×α):=C.foldl dd1 W
variable {W C C':List (β×α)}{c:β×α}{t:β}
def P2(h:c.1∈W.map (·.1)):dd1 W c=W:=aB h
def I9(h:c.1∉W.map (·.1)):dd1 W c=W++[c]:=aJ h
def b4N:dd W (C++C')=dd (dd W C) C':=by unfold dd;rw[ki]
def O5:dd W (C++[c])=dd1 (dd W C) c:=by rw[b4N];rfl
def a3Y(W C:List (β×α)):∃E,dd W C=W++E:=by
 induction C using snoc_ind with
 |h0=>exact⟨[],(bb _).symm⟩
 |h1 C c ih=>
  obtain⟨E,e⟩:=ih;rw[O5];by_cases h:c.1∈(dd W C).map (·.1)
  ·rw[P2 h];exact⟨E,e⟩
  ·rw[I9 h,e];exact⟨E++[c],aN ..⟩
def a3Z(h:(W.map (·.1)).Nodup)(C:List (β×α)):((dd W C).map (·.1)).Nodup:=by
 induction C using snoc_ind with
 |h0=>exact h
 |h1 C c ih=>
  rw[O5];by_cases h:c.1∈(dd W C).map (·.1)
  ·rw[P2 h];exact ih
  ·rw[I9 h,aO,bu];refine⟨ih,by simp,λx hx y hy e=>h ?_⟩;rw[cy,aq]at hy;rw[<-hy,<-e];exact hx
def Y3(W C:List (β×α)):(dd W C).Sublist (W++C):=by
 induction C using snoc_ind with
 |h0=>rw[bb];exact fM _
 |h1 C c ih=>
  rw[O5,<-aN];by_cases h:c.1∈(dd W C).map (·.1)
  ·rw[P2 h];exact ih.trans (kE _ _)
  ·rw[I9 h];exact ih.append (fM _)
def a8W(W C:List (β×α)):(dd W C).length<=W.length+C.length:=by
 have:=(Y3 W C).length_le
 rwa[aA]at this
def b4O{R:α->α->Prop}(hR:(W++C).Pairwise λa b=>R a.2 b.2):∀e∈W++C,∃v,(e.1,v)∈dd W C/\(v=e.2\/R v e.2):=by
 induction C using snoc_ind with
 |h0=>
  intro e he;rw[bb]at he;exact⟨e.2,he,.inl rfl⟩
 |h1 C c ih=>
  intro e he;rw[<-aN]at hR he;obtain⟨h1,h2,h3⟩:=dt.mp hR;rw[O5];rcases ao.mp he with z|z
  ·obtain⟨v,hv,r⟩:=ih h1 e z;refine⟨v,?_,r⟩;by_cases h:c.1∈(dd W C).map (·.1)
   ·rw[P2 h];exact hv
   ·rw[I9 h];exact aj _ hv
  ·rw[aq.mp z];by_cases h:c.1∈(dd W C).map (·.1)
   ·rw[P2 h];obtain⟨x,hx,ex⟩:=aI.mp h;refine⟨x.2,by rw[<-ex];exact hx,.inr (h3 x ((Y3 W C).subset hx) c (by simp))⟩
   ·rw[I9 h];exact⟨c.2,by simp,.inl rfl⟩
end
def nodup_range{n:Nat}:∀{l:List Int},l.Nodup->(∀x∈l,0<=x/\x<(n:Int))->l.length<=n:=by
 induction n with
 |zero=>
  intro l _ h;cases l with
  |nil=>exact ay _
  |cons x l=>have:=h x (by simp);lia
 |succ n ih=>
  intro l hd h;have h1:=ih (l:=l.erase (n:Int)) (hd.erase _) λx hx=>by
   have h2:=(List.Nodup.mem_erase_iff hd).mp hx;have:=h x h2.2;have:=h2.1;lia
  have h2:=List.length_erase (a:=(n:Int)) (l:=l);by_cases c:(n:Int)∈l
  ·rw[aB c]at h2;lia
  ·rw[aJ c]at h2;lia
def wl:List Int->List Int->Prop
 |a::p,b::q=>a<b\/(a=b/\wl p q)
 |_,_=>False
def bf(p q:List Int):Prop:=p.length<q.length\/(p.length=q.length/\wl p q)
theorem b4P:∀{p q:List Int} (x y:List Int),wl p q->wl (p++x) (q++y)
 |[],_,_,_,h=>h.elim
 |_::_,[],_,_,h=>h.elim
 |a::p,b::q,x,y,h=>by
  rcases h with h|⟨e,h⟩
  ·exact .inl h
  ·exact .inr ⟨e,b4P x y h⟩
theorem b0u:∀(p:List Int) {x y:List Int},wl x y->wl (p++x) (p++y)
 |[],_,_,h=>h
 |a::p,_,_,h=>.inr ⟨rfl,b0u p h⟩
def b0v(a b:Int)(h:bf p q):bf (p++[a]) (q++[b]):=by
 rcases h with h|⟨e,h⟩
 ·exact .inl (by simp;lia)
 ·exact .inr ⟨by simp[e],b4P _ _ h⟩
def b4Q(h:a<b):bf (p++[a]) (p++[b]):=.inr ⟨by simp,b0u p (.inl h)⟩
abbrev a0I:=List (Int×List Int)
def a4y(m:i8)(k:Nat)(e:Int×List Int):a0I:=(az k).map λ(a:Nat)=>((stp m e.1 a).2,e.2++[(a:Int)])
abbrev W0:a0I:=[(0,[])]
abbrev Sor(W:a0I):Prop:=W.Pairwise λa b=>bf a.2 b.2
def b4R(m:i8)(k:Nat)(e:Int×List Int):Sor (a4y m k e):=by
 unfold Sor a4y;rw[oe];exact uk.imp λh=>b4Q (by lia)
def b2f(m:i8)(k:Nat){V:a0I}(h:Sor V):Sor (V.flatMap (a4y m k)):=by
 induction V with
 |nil=>exact kl
 |cons e V ih=>
  obtain⟨h1,h2⟩:=gc.mp h;rw[fL];refine dt.mpr ⟨b4R m k e,ih h2,λx hx y hy=>?_⟩;obtain⟨f,hf,hy⟩:=cQ.mp hy;obtain⟨a,_,rfl⟩:=aI.mp hx;obtain⟨b,_,rfl⟩:=aI.mp hy;exact b0v _ _ (h1 f hf)
def b2g(m:i8)(k:Nat){V:a0I}(h:Sor V):Sor (W0++V.flatMap (a4y m k)):=by
 refine dt.mpr ⟨dJ ..,b2f m k h,λx hx y hy=>?_⟩;rw[aq.mp hx];obtain⟨f,hf,hy⟩:=cQ.mp hy;obtain⟨b,_,rfl⟩:=aI.mp hy;exact .inl (by simp)
structure Met (m:i8) (k:Nat) (dn W:a0I):Prop where
 eq:W=dd W0 (dn.flatMap (a4y m k))
 pre:∃nw,W=dn++nw
 sor:Sor W
 ql:∀e∈W,e.2.length<=dn.length
structure AllMet (m:i8) (k:Nat) (W:a0I):Prop where
 eq:W=dd W0 (W.flatMap (a4y m k))
 sor:Sor W
 range:∀e∈W,0<=e.1/\e.1<(m.length:Int)
 ql:∀e∈W,e.2.length<=W.length
section
variable {m:i8}{k:Nat}{W:a0I}
def AllMet.nodup(h:AllMet m k W):(W.map (·.1)).Nodup:=by rw[h.eq];exact a3Z (by simp) _
def AllMet.len(h:AllMet m k W):W.length<=m.length:=by
 have:=nodup_range h.nodup λx hx=>by
  obtain⟨e,he,rfl⟩:=aI.mp hx;exact h.range e he
 rwa[ai]at this
def AllMet.zero(h:AllMet m k W):(0,[])∈W:=by
 obtain⟨E,hE⟩:=a3Y W0 (W.flatMap (a4y m k));rw[h.eq,hE];exact aL
def AllMet.next(h:AllMet m k W){s:Int}{p:List Int}(hs:(s,p)∈W){a:Nat}(ha:a<k):∃q,((stp m s a).2,q)∈W/\(q=p++[(a:Int)]\/bf q (p++[(a:Int)])):=by
 have h1:=b4O (R:=bf) (b2g m k h.sor) ((stp m s a).2,p++[(a:Int)]) (ah _ (cQ.mpr ⟨_,hs,aI.mpr ⟨a,bT.mpr ha,rfl⟩⟩));rw[<-h.eq]at h1;exact h1
def AllMet.leads(h:AllMet m k W):∀(n:Nat) {s:Int} {p:List Int},p.length<=n->(s,p)∈W->(g7 m 0 p).2=s/\∀a∈p,0<=a/\a<(k:Int):=by
 intro n
 induction n with
 |zero=>
  intro s p hn hs;have hp:p=[]:=eU.mp (by lia);subst hp;rw[h.eq]at hs;rcases ao.mp ((Y3 _ _).subset hs) with z|z
  ·have:=aq.mp z;cases this
   exact⟨rfl,λa ha=>nomatch ha⟩
  ·obtain⟨e,_,hc⟩:=cQ.mp z;obtain⟨a,_,e2⟩:=aI.mp hc;have:=dE Prod.snd e2;simp at this
 |succ n ih=>
  intro s p hn hs;rw[h.eq]at hs;rcases ao.mp ((Y3 _ _).subset hs) with z|z
  ·have:=aq.mp z;cases this
   exact⟨rfl,λa ha=>nomatch ha⟩
  ·obtain⟨⟨t,q⟩,ht,hc⟩:=cQ.mp z;obtain⟨a,ha,e2⟩:=aI.mp hc;cases e2
   obtain⟨i1,i2⟩:=ih (s:=t) (p:=q) (by simp at hn;lia) ht;refine⟨by rw[U2,i1],λb hb=>?_⟩;rcases ao.mp hb with z|z
   ·exact i2 b z
   ·rw[aq.mp z];have:=bT.mp ha;lia
end
section
variable {α:Type}
def kvD(enc:α->D)(W:List (Int×α)):List (D×D):=W.map λe=>(aK e.1,enc e.2)
variable {enc:α->D}{W:List (Int×α)}{t:Int}{x:α}
def b0w:(kvD enc W).length=W.length:=ai ..
def b0x{V:List (Int×α)}:kvD enc (W++V)=kvD enc W++kvD enc V:=aO ..
def a6f:K9 (kvD enc W) (.int t)=decide (t∈W.map (·.1)):=by
 induction W with
 |nil=>rfl
 |cons e W ih=>
  show (aF (.int e.1) (.int t)||K9 (kvD enc W) (.int t))=_;rw[a2L,ih];by_cases h1:e.1=t
  ·simp[h1]
  ·have h2:t≠e.1:=λz=>h1 z.symm
   simp[h1,h2]
def b0y(hn:(W.map (·.1)).Nodup)(h:(t,x)∈W):v6 (kvD enc W) (.int t)=cz (enc x):=by
 induction W with
 |nil=>cases h
 |cons e W ih=>
  rw[ax,bY]at hn;unfold v6 kvD;rw[ax,ju];show Ak _ (match aF (.int e.1) (.int t) with|true=>_|false=>_)=_;rw[a2L];rcases aD.mp h with z|z
  ·rw[<-z,aW rfl];rfl
  ·have h1:e.1≠t:=λq=>hn.1 (by rw[q];exact aI.mpr ⟨_,z,rfl⟩)
   rw[bg h1];exact ih hn.2 z
def a8X(h:t∉W.map (·.1)):v6 (kvD enc W) (.int t)=xn:=by
 refine Z5 ?_;rw[a6f,bg h]
def b4S(h:t∉W.map (·.1)):K4 (kvD enc W) (.int t) (enc x)=kvD enc (W++[(t,x)]):=by
 unfold K4;rw[a6f,bg h,b0x];rfl
def b7p:C4 (kvD enc W) (.int t) (enc x)=kvD enc (dd1 W (t,x)):=by
 unfold C4;rw[a6f];by_cases h:t∈W.map (·.1)
 ·rw[aW h,P2 (c:=(t,x)) h];rfl
 ·rw[bg h,I9 (c:=(t,x)) h,b0x];rfl
def dKey_i{t:Int}:s9 yp (.int t)=yn:=rfl
def b0z:(kvD enc W).all (λp=>s9 yp p.1)=yn:=by
 unfold kvD;rw[List.all_map,eK];exact λe _=>dKey_i
def c0t:(kvD enc W).map (·.1)=(W.map (·.1)).map aK:=by unfold kvD;rw[bC,bC];rfl
def b4T:(kvD enc W).map (·.2)=(W.map (·.2)).map enc:=by unfold kvD;rw[bC,bC];rfl
def b7q(hn:(W.map (·.1)).Nodup)(h:(t,x)∈W):a3o yp (.dict (kvD enc W)) (.int t)=cz (enc x):=by
 show (if s9 yp (.int t) then cz ((v6 (kvD enc W) (.int t)).getD .none) else xn)=_;rw[dKey_i,b0y hn h];rfl
def a8Y(h:t∉W.map (·.1)):a3o yp (.dict (kvD enc W)) (.int t)=cz .none:=by
 show (if s9 yp (.int t) then cz ((v6 (kvD enc W) (.int t)).getD .none) else xn)=_;rw[dKey_i,a8X h];rfl
end
def a8Z{Z:List D}(hv:fv Z=cz d)(hk:fk Z=cz k)(hd:Z.getD i .none=.dict kvs)(hK:s9 kt k=yn)(hl:kvs.length<1000000) :
  F6 i kt fk fv Z=cz (.nx (Z.set i (.dict (K4 kvs k d)))):=by
 unfold F6;rw[hv];show (fk Z).bind _=_;rw[hk];show (match Z.getD i .none with|.dict kvs=>_|_=>_)=_;rw[hd];show (if _ then _ else _)=_;rw[aB (by rw[hK,aW hl];rfl)]
def c3J{Z:List D}(hk:fk Z=cz k)(hv:fv Z=cz d)(hK:s9 kt k=yn):eD1 kt fk fv Z=cz (.dict [(k,d)]):=by
 unfold eD1;rw[hk];show (fv Z).bind _=_;rw[hv];show (if _ then _ else _)=_;rw[hK];rfl
def b7r{α:Type}{enc:α->D}{W:List (Int×α)}{Z:List D}(h:a Z=cz (.dict (kvD enc W))):a5L a Z=cz (.list ((W.map (·.1)).map .int)):=by
 unfold a5L;rw[h];show (if _ then _ else _)=_;rw[aB b0z,c0t]
def b7s{Z:List D}(h:a Z=cz (.dict (kvD aK W))):a5M a Z=cz (.list ((W.map (·.2)).map .int)):=by
 unfold a5M;rw[h];show (if _ then _ else _)=_;rw[aB (by rw[b0z,b4T,m6 _ (λ_=>T6)];rfl),b4T]
section
variable {β:Type}[DecidableEq β]
abbrev O6(β:Type):=List (β×List Int)
def N9(nx:β->Nat->β)(k:Nat)(e:β×List Int):O6 β:=(az k).map λ(a:Nat)=>(nx e.1 a,e.2++[(a:Int)])
abbrev WB(s:β):O6 β:=[(s,[])]
abbrev a6g(W:O6 β):Prop:=W.Pairwise λa b=>bf a.2 b.2
variable {nx:β->Nat->β}{k:Nat}{s:β}
def b2h(e:β×List Int):a6g (N9 nx k e):=by
 unfold a6g N9;rw[oe];exact uk.imp λh=>b4Q (by lia)
def a9a{V:O6 β}(h:a6g V):a6g (V.flatMap (N9 nx k)):=by
 induction V with
 |nil=>exact kl
 |cons e V ih=>
  obtain⟨h1,h2⟩:=gc.mp h;rw[fL];refine dt.mpr ⟨b2h e,ih h2,λx hx y hy=>?_⟩;obtain⟨f,hf,hy⟩:=cQ.mp hy;obtain⟨a,_,rfl⟩:=aI.mp hx;obtain⟨b,_,rfl⟩:=aI.mp hy;exact b0v _ _ (h1 f hf)
def a9b{V:O6 β}(h:a6g V):a6g (WB s++V.flatMap (N9 nx k)):=by
 refine dt.mpr ⟨dJ ..,a9a h,λx hx y hy=>?_⟩;rw[aq.mp hx];obtain⟨f,hf,hy⟩:=cQ.mp hy;obtain⟨b,_,rfl⟩:=aI.mp hy;exact .inl (by simp)
structure MetB (nx:β->Nat->β) (k:Nat) (s:β) (P:β->Prop) (dn W:O6 β):Prop where
 eq:W=dd (WB s) (dn.flatMap (N9 nx k))
 pre:∃nw,W=dn++nw
 sor:a6g W
 ql:∀e∈W,e.2.length<=dn.length
 ok:∀e∈W,P e.1
def c2n(h:P s):MetB nx k s P [] (WB s):=⟨rfl,⟨WB s,rfl⟩,dJ ..,λe he=>by rw[aq.mp he];exact ay _,λe he=>by rw[aq.mp he];exact h⟩
def MetB.nodup{P:β->Prop}{dn W:O6 β}(h:MetB nx k s P dn W):(W.map (·.1)).Nodup:=by rw[h.eq];exact a3Z (by simp) _
def MetB.qlen(h:MetB nx k s P dn W)(he:e∈W):e.2.length<=W.length:=by
 have:=h.ql e he;obtain⟨nw,hn⟩:=h.pre;rw[hn,aA];lia
def MetB.step(hP:∀b a,P b->a<k->P (nx b a))(h:MetB nx k s P dn W)(hp:W=dn++e::nw):MetB nx k s P (dn++[e]) (dd W (N9 nx k e)):=by
 have hd:a6g (dn++[e]):=by
  have h1:=h.sor;rw[hp]at h1;exact h1.sublist (jy (fM _) (by simp))
 have he:dd W (N9 nx k e)=dd (WB s) ((dn++[e]).flatMap (N9 nx k)):=by
  rw[eD,fL,iS,bb,b4N,<-h.eq]
 refine⟨he,?_,?_,λf hf=>?_,λf hf=>?_⟩
 ·obtain⟨E,hE⟩:=a3Y W (N9 nx k e);exact⟨nw++E,by rw[hE,hp];simp⟩
 ·rw[he];exact (a9b hd).sublist (Y3 _ _)
 ·rw[aA,cx];rcases ao.mp ((Y3 _ _).subset hf) with z|z
  ·have:=h.ql f z;lia
  ·obtain⟨a,_,rfl⟩:=aI.mp z;have:=h.ql e (by rw[hp];simp);simp;lia
 ·rcases ao.mp ((Y3 _ _).subset hf) with z|z
  ·exact h.ok f z
  ·obtain⟨a,ha,rfl⟩:=aI.mp z;exact hP e.1 a (h.ok e (by rw[hp];simp)) (bT.mp ha)
structure AllB (nx:β->Nat->β) (k:Nat) (s:β) (P:β->Prop) (W:O6 β):Prop where
 eq:W=dd (WB s) (W.flatMap (N9 nx k))
 sor:a6g W
 ql:∀e∈W,e.2.length<=W.length
 ok:∀e∈W,P e.1
def MetB.all(h:MetB nx k s P W W):AllB nx k s P W:=⟨h.eq,h.sor,λe he=>h.ql e he,h.ok⟩
end
section
variable {β α:Type}[DecidableEq β]
def kvB(key:β->D)(enc:α->D)(W:List (β×α)):List (D×D):=W.map λe=>(key e.1,enc e.2)
structure KeyB (kt:Bool) (key:β->D):Prop where
 eqv:∀a b,aF (key a) (key b)=decide (a=b)
 ok:∀a,s9 kt (key a)=yn
 im:∀a,imm (key a)=yn
variable {key:β->D}{enc:α->D}{W:List (β×α)}{t:β}{x:α}{kt:Bool}
def b7t:(kvB key enc W).length=W.length:=ai ..
def b7u{V:List (β×α)}:kvB key enc (W++V)=kvB key enc W++kvB key enc V:=aO ..
def a7z(K:KeyB kt key):K9 (kvB key enc W) (key t)=decide (t∈W.map (·.1)):=by
 induction W with
 |nil=>rfl
 |cons e W ih=>
  show (aF (key e.1) (key t)||K9 (kvB key enc W) (key t))=_;rw[K.eqv,ih];by_cases h1:e.1=t
  ·simp[h1]
  ·have h2:t≠e.1:=λz=>h1 z.symm
   simp[h1,h2]
def b4U(K:KeyB kt key)(hn:(W.map (·.1)).Nodup)(h:(t,x)∈W):v6 (kvB key enc W) (key t)=cz (enc x):=by
 induction W with
 |nil=>cases h
 |cons e W ih=>
  rw[ax,bY]at hn;unfold v6 kvB;rw[ax,ju];show Ak _ (match aF (key e.1) (key t) with|true=>_|false=>_)=_;rw[K.eqv];rcases aD.mp h with z|z
  ·rw[<-z,aW rfl];rfl
  ·have h1:e.1≠t:=λq=>hn.1 (by rw[q];exact aI.mpr ⟨_,z,rfl⟩)
   rw[bg h1];exact ih hn.2 z
def b2i(K:KeyB kt key)(h:t∉W.map (·.1)):K4 (kvB key enc W) (key t) (enc x)=kvB key enc (W++[(t,x)]):=by
 unfold K4;rw[a7z K,bg h,b7u];rfl
def b4V(K:KeyB kt key):dIn neg kt (key t) (.dict (kvB key enc W))=cz (.bool (neg !=decide (t∈W.map (·.1)))):=by
 show (if s9 kt (key t) then cz (cV (neg !=K9 (kvB key enc W) (key t))) else xn)=_;rw[K.ok,a7z K];rfl
def c0u(K:KeyB kt key)(hn:(W.map (·.1)).Nodup)(h:(t,x)∈W):a5H kt (.dict (kvB key enc W)) (key t)=cz (enc x):=by
 show (if s9 kt (key t) then v6 (kvB key enc W) (key t) else xn)=_;rw[K.ok,b4U K hn h];rfl
end
def b4W{β α:Type}[DecidableEq β]{W:List (β×α)}{c:β×α}(h:L<=W.length):((dd1 W c).drop L).map (·.1)=if c.1∈W.map (·.1) then (W.drop L).map (·.1) else (W.drop L).map (·.1)++[c.1]:=by
 by_cases hc:c.1∈W.map (·.1)
 ·rw[P2 hc,aB hc]
 ·rw[I9 hc,aJ hc,pC h,aO,cy]
def b4X[DecidableEq β](W C:List (β×α)):W.length<=(dd W C).length:=by
 obtain⟨E,e⟩:=a3Y W C;rw[e,aA];lia
def b7v[DecidableEq β](C:List (β×α))(h:e∈W):e∈dd W C:=by
 obtain⟨E,q⟩:=a3Y W C;rw[q];exact aj _ h
def c2o(h:argsOk us ds=yn):fnL us n g gm ds=a1x (g gm (ds++(.none::aT n .none))):=by
 unfold fnL;rw[aB h];cases g gm (ds++(.none::aT n .none)) with
 |none=>rfl
 |some o=>cases o<;>rfl
def c2p{Z ds:List D}(h:f Z=cz ds):b6X m us js fb f Z=m (fnE us (js.map λj=>Z.getD j .none) fb) ds:=by
 unfold b6X;rw[h];rfl
def c2q(h:argsOk us ds=yn):fnE us rg f ds=f (ds++rg):=aB h
abbrev PW:=List ((Int×Int)×List Int)
def atI_nums{ns:List Int}{j:Int}(a:0<=j)(b:j<ns.length):L2.atI (ns.map aK) j=cz (.int (ns.getD j.toNat 0)):=by
 rw[X1 a (by rw[ai];exact b),dF];rw[af,ab (by lia)];rfl
def a2E:Option (List Int)->D
 |none=>.none
 |some q=>.list (q.map .int)
end VS
namespace Prog
open PySem L2 VS
def P3{ls:List Int}(hn:∀p∈r,0<=p.2/\p.2<(ls.length:Int))(hl:r.length<=1000):j8 [rwD r,iD ls]=cz (rwD (rn r ls)):=by
 unfold j8;rw[A8 (by simp[VS.argsOk])];unfold U4;rw[a9I,a3I (ds:=r.map stD) (λd=>match d with|.tuple [.int a,.int b]=>stD (a,ls.getD b.toNat 0)|_=>.none)]
 ·rw[bC];show cz (b_ (r.map _))=_;unfold rwD rn;rw[bC];rfl
 ·exact a1f (by unfold rwD;walk_at "ev") (m6 _ (λ_=>a1K) r)
 ·rw[ai];lia
 ·intro d hd;obtain⟨p,hp,rfl⟩:=aI.mp hd;have:=hn p hp;refine⟨[.int p.1,.int p.2],rfl,?_⟩;show K1 _ [.int p.1,.int p.2,.list (ls.map .int)]=cz (stD (p.1,ls.getD p.2.toNat 0));walk_at "ev";rw[R1 this.1 this.2];walk_at "ev";rfl
def b4Y{m:i8}{ls:List Int}(hn:∀r∈m,∀p∈r,0<=p.2/\p.2<(ls.length:Int))(hl:∀r∈m,r.length<=1000)(hm:m.length<=1000):v5 [.list (m.map rwD),iD ls]=cz (iD (a1Q (m.map λr=>rn r ls))):=by
 unfold v5;rw[A8 (by simp[VS.argsOk])];unfold a0m;walk_at "ev";refine E7 (λZ=>∃x y z,Z=[.list (m.map rwD),iD ls,x,iD (a1Q (m.map λr=>rn r ls)),y,z]) ?_ ?_
 ·obtain⟨Z',h1,x,y,rfl⟩:=t5 (enc:=rwD) (set:=r9 4) (xs:=m) (g:=f7 (j5 5 (W8 (eCl j8 (a7 (a6 4) (a7 (a6 1) c6))))) (a6O 3 (V3 2 yn (a6 5) (eCl a9J (a7 (a6 2) c6)))))
   (Z:=[.list (m.map rwD),iD ls,.dict [],.list [],.none,.none])
   (λpre Z=>∃x y,Z=[.list (m.map rwD),iD ls,.dict (dz (ded (pre.map λr=>rn r ls)) 0),iD (a1Q (pre.map λr=>rn r ls)),x,y])
   ⟨.none,.none,rfl⟩ (by
    rintro pre r post e Z ⟨x,y,rfl⟩;have hr:r∈m:=by rw[e];simp
    have hlen:pre.length<m.length:=by rw[e];simp
    have hd:=b0k (pre.map λr=>rn r ls);rw[ai]at hd;refine⟨_,[.list (m.map rwD),iD ls,.dict (dz (ded ((pre++[r]).map λr=>rn r ls)) 0),iD (a1Q ((pre++[r]).map λr=>rn r ls)),rwD r,R6 (rn r ls)],rfl,?_,_,_,rfl⟩;walk_at "ev";rw[a6e (ds:=(rn r ls).map stD) (by walk_at "ev";exact P3 (hn r hr) (hl r hr)) (m6 _ (λ_=>a1K) _)];walk_at "ev";rw[c0p (k:=R6 (rn r ls)) (e:=.int ((ded (pre.map λr=>rn r ls)).length:Nat)) (kvs:=dz (ded (pre.map λr=>rn r ls)) 0) (ds:=(a1Q (pre.map λr=>rn r ls)).map .int) (by rfl) (by walk_at "ev";rw[c0o,a8V]) (by rfl) (b2e _) (by rw[a8V];lia) (by rfl) (by rfl) (by decide) (by rw[ai,a7x,ai];lia)];rw[b7m,b7n,aO,cy,J9];have tM:a1Q ((pre.map λr=>rn r ls)++[rn r ls])=a1Q (pre.map λr=>rn r ls)++[(((a4x (ded (pre.map λr=>rn r ls)) (rn r ls)).idxOf (rn r ls):Nat):Int)]:=by
     unfold a1Q;rw[aO,cy,J9]
     congr 1;refine bH λy hy=>?_
     rw[b4G (U6.mpr hy)]
    rw[tM];unfold iD;rw[aO];rfl)
  exact⟨_,h1,_,_,_,rfl⟩
 ·rintro Z ⟨x,y,z,rfl⟩;walk_at "ev"
end Prog
namespace VS
open PySem L2
def b4Z{Z ds:List D}(h:Z.getD j .none=.list ds)(hl:ds.length<1000000)(hf:f (Z.set j (.list (ds++[Z.getD i .none])))=cz d):Z7 j i f Z=cz (.nx ((Z.set j (.list (ds++[Z.getD i .none]))).set i d)):=by
 unfold Z7;rw[h];show (if _ then _ else _)=_;rw[aB hl,hf];rfl
def a6h{α:Type}{f:Nat->α}{j:Nat}:L2.atI ((az (j+1)).map f) (-1)=cz (f j):=by
 unfold L2.atI ixN;rw[ai,bF,aJ (by decide),aB (by lia)];show ((az (j+1)).map f)[((j+1:Nat)+(-1:Int)).toNat]?=_;rw[show (((j+1:Nat):Int)+(-1:Int)).toNat=j by lia,aQ,fT (by lia)];rfl
end VS
namespace Prog
open PySem L2 VS
def a5i{m:i8}{k:Nat}(w:WF m k)(d:Nat):v5 [.list (m.map rwD),iD (lvl m d)]=cz (iD (lvl m (d+1))):=by
 refine b4Y (λr hr p hp=>?_) (λr hr=>by rw[w.rows r hr];have:=w.k5;lia) (by have:=w.le;lia);rw[U7];exact w.next r hr p hp
def a5j{m:i8}{k:Nat}(w:WF m k):∃D:Nat,C9 [.list (m.map rwD)]=cz (.list ((az (D+1)).map λd=>iD (lvl m d)))/\D+1<=m.length/\(∀i<D,cls m i<cls m (i+1))/\
  ∀s t:Int,0<=s->s<m.length->0<=t->t<m.length->lv m D s=lv m D t->lv m (D+1) s=lv m (D+1) t:=by
 unfold C9;rw[A8 (by simp[VS.argsOk])];unfold a2q;have hle:=w.le;have h0:n9 (iL (a6 0)) [] pt1 tT (eC (.int 0)) [.list (m.map rwD),.none,.none]=cz (iD (lvl m 0)):=by
  rw[a3I (ds:=m.map rwD) (λ_=>.int 0)]
  ·rw[bC];show _=cz (b_ ((m.map λ_=>(0:Int)).map .int));rw[bC];rfl
  ·walk_at "ev"
  ·rw[ai];lia
  ·exact λd hd=>⟨[d],rfl,rfl⟩
 walk_at "ev";show ∃D,a1x (thn (b6l 1 (listE (b3i (n9 (iL (a6 0)) [] pt1 tT (eC (.int 0)) [.list (m.map rwD),.none,.none]) (cz []))) [.list (m.map rwD),.none,.none]) _)=_/\_;rw[h0];walk_at "ev";rw[show L2.atI [iD (lvl m 0)] (-1)=cz (iD (lvl m 0)) from a6h (f:=λd=>iD (lvl m d)) (j:=0)];walk_at "ev";rw[a5i w 0];walk_at "ev";rw[c0q];obtain⟨Z',h1,D,rfl,q1,q2⟩:=a2N (c:=tB (e2 dGt (eCl a0k (a7 (a6 2) c6)) (eCl a0k (a7 (e2 a6z (a6 1) (eC (.int (-1)))) c6)))) (g:=f7 (Z7 1 2 (eCl v5 (a7 (a6 0) (a7 (a6 2) c6)))) z9)
  (I:=λj Z=>Z=[.list (m.map rwD),.list ((az (j+1)).map λd=>iD (lvl m d)),iD (lvl m (j+1))]/\∀i<j,cls m i<cls m (i+1))
  (Q:=λZ=>∃j,Z=[.list (m.map rwD),.list ((az (j+1)).map λd=>iD (lvl m d)),iD (lvl m (j+1))]/\(∀i<j,cls m i<cls m (i+1))/\cls m (j+1)<=cls m j) 30
  (by
   rintro j Z ⟨rfl,hc⟩;have up:∀i≤j,i+1<=cls m i:=by
    intro i
    induction i with
    |zero=>intro _;exact a1l w 0
    |succ i ih=>intro hi;have:=ih (by lia);have:=hc i (by lia);lia
   have hj:=up j (ay _);have qG:=b0n m j;refine⟨by lia,?_⟩;have iC:tB (e2 dGt (eCl a0k (a7 (a6 2) c6)) (eCl a0k (a7 (e2 a6z (a6 1) (eC (.int (-1)))) c6))) [.list (m.map rwD),.list ((az (j+1)).map λd=>iD (lvl m d)),iD (lvl m (j+1))]=cz (decide (cls m j<cls m (j+1))):=by
    walk_at "ev";rw[a6h (f:=λd=>iD (lvl m d))];walk_at "ev";unfold iD;rw[b0t w,b0t w];walk_at "ev";have h1:=a1l w j;have h2:=a1l w (j+1)
    congr 1;exact decide_eq_decide.mpr (by lia)
   rw[iC];by_cases c:cls m j<cls m (j+1)
   ·refine .inr ⟨by rw[aW c],[.list (m.map rwD),.list ((az (j+2)).map λd=>iD (lvl m d)),iD (lvl m (j+2))],?_,rfl,λi hi=>?_⟩
    ·rw[Q3,b4Z (ds:=(az (j+1)).map λd=>iD (lvl m d)) (d:=iD (lvl m (j+2))) (by rfl) (by rw[ai,bF];lia) (by walk_at "ev";exact a5i w (j+1))];walk_at "ev";rw[jr (n:=j+1),aO];rfl
    ·rcases dH i j with z|z
     ·exact hc i z
     ·rw[show i=j by lia];exact c
   ·exact .inl ⟨by rw[bg c],j,rfl,hc,by lia⟩) 1000000 0 [.list (m.map rwD),.list [iD (lvl m 0)],iD (lvl m 1)] ⟨rfl,λi hi=>absurd hi (by lia)⟩ (by lia)
 rw[h1];walk_at "ev";have up:∀i≤D,i+1<=cls m i:=by
  intro i
  induction i with
  |zero=>intro _;exact a1l w 0
  |succ i ih=>intro hi;have:=ih (by lia);have:=q1 i (by lia);lia
 have hj:=up D (ay _);have qG:=b0n m D;exact⟨D,rfl,by lia,q1,λs t s0 s1 t0 t1 h=>(b4I w D).2 q2 s t s0 s1 t0 t1 h⟩
end Prog
namespace VS
open PySem L2
def dk1(K:List Int)(x:Int):List Int:=if x∈K then K else K++[x]
def dkk(K L:List Int):List Int:=L.foldl dk1 K
section
variable {K L L':List Int}{x:Int}
def U8(h:x∈K):dk1 K x=K:=aB h
def U9(h:x∉K):dk1 K x=K++[x]:=aJ h
def V0:dkk K (L++L')=dkk (dkk K L) L':=by unfold dkk;rw[ki]
def C1:dkk K (L++[x])=dk1 (dkk K L) x:=by rw[V0];rfl
def L6(K L:List Int):x∈dkk K L↔x∈K\/x∈L:=by
 induction L using snoc_ind with
 |h0=>simp[dkk]
 |h1 L y ih=>
  rw[C1,ao,<-or_assoc,<-ih,aq];by_cases h:y∈dkk K L
  ·rw[U8 h];exact⟨.inl,λz=>z.elim id λz=>z▸h⟩
  ·rw[U9 h,ao,aq]
def a2O(K L:List Int):∃E,dkk K L=K++E:=by
 induction L using snoc_ind with
 |h0=>exact⟨[],(bb _).symm⟩
 |h1 L y ih=>
  obtain⟨E,e⟩:=ih;rw[C1];by_cases h:y∈dkk K L
  ·rw[U8 h];exact⟨E,e⟩
  ·rw[U9 h,e];exact⟨E++[y],aN ..⟩
def b2j(h:K.Nodup)(L:List Int):(dkk K L).Nodup:=by
 induction L using snoc_ind with
 |h0=>exact h
 |h1 L y ih=>
  rw[C1];by_cases hy:y∈dkk K L
  ·rw[U8 hy];exact ih
  ·rw[U9 hy,bu];exact⟨ih,by simp,λa ha b hb e=>hy (by rw[aq.mp hb]at e;exact e▸ha)⟩
def b5a(h:∀x∈L,x∈K):dkk K L=K:=by
 induction L using snoc_ind with
 |h0=>rfl
 |h1 L y ih=>
  have e:=ih λx hx=>h x (aj _ hx)
  rw[C1,e,U8 (h y (by simp))]
def b7w(c:Int->Int)(X K L:List Int):dkk X ((dkk K L).map c)=dkk X ((K++L).map c):=by
 induction L using snoc_ind with
 |h0=>rw[bb];rfl
 |h1 L y ih=>
  rw[C1,<-aN,aO,cy,C1,<-ih];by_cases h:y∈dkk K L
  ·rw[U8 h,U8];exact (L6 _ _).mpr (.inr (de h))
  ·rw[U9 h,aO,cy,C1]
def b5b(W C:List (Int×α)):(dd W C).map (·.1)=dkk (W.map (·.1)) (C.map (·.1)):=by
 induction C using snoc_ind with
 |h0=>rfl
 |h1 C c ih=>
  rw[O5,aO,cy,C1,<-ih];by_cases h:c.1∈(dd W C).map (·.1)
  ·rw[P2 h,U8 h]
  ·rw[I9 h,U9 h,aO,cy]
def b7x{A B:List Int}(h:x∈A):(A++B).idxOf x=A.idxOf x:=by rw[kh,aB h]
def b5c{s:List Int}(hx:x∈s)(hy:y∈s)(h:s.idxOf x=s.idxOf y):x=y:=by
 have h1:=dX (cm.mpr hx);have h2:=dX (cm.mpr hy);rw[<-h1,<-h2];simp only[h]
end
section
variable {m:i8}{k:Nat}{c:Int->Int}{r:List Int}
def a6i(m:i8)(k:Nat)(c:Int->Int):Prop:=∀s t:Int,0<=s->s<m.length->0<=t->t<m.length->c s=c t->∀a:Int,0<=a->a<k->(stp m s a).1=(stp m t a).1/\c (stp m s a).2=c (stp m t a).2
structure Rch (m:i8) (k:Nat) (r:List Int):Prop where
 eq:r=dkk [0] (r.flatMap λs=>(az k).map λ(a:Nat)=>(stp m s a).2)
 range:∀s∈r,0<=s/\s<(m.length:Int)
 len:r.length<=m.length
 walks:∀s∈r,∃p:List Int,(g7 m 0 p).2=s/\∀a∈p,0<=a/\a<(k:Int)
def fc(c:Int->Int)(r:List Int):List (Int×Int):=dd [] (r.map λs=>(c s,s))
def cl(c:Int->Int)(r:List Int):List Int:=(fc c r).map (·.1)
def fs(c:Int->Int)(r:List Int):List Int:=(fc c r).map (·.2)
def pls(c:Int->Int)(r:List Int)(s:Int):Nat:=(cl c r).idxOf (c s)
def n8(m:i8)(c:Int->Int)(r:List Int):i8:=(fs c r).map λf=>(rowAt m f).map λp=>(p.1,(pls c r p.2:Int))
def a0J{e:Int×Int}(h:e∈fc c r):e.2∈r/\e.1=c e.2:=by
 have h1:=(Y3 _ _).subset h;rw[bx]at h1;obtain⟨s,hs,rfl⟩:=aI.mp h1;exact⟨hs,rfl⟩
def b0A:cl c r=dkk [] (r.map c):=by
 unfold cl fc;rw[b5b,bC];rfl
def Y4:(cl c r).Nodup:=by rw[b0A];exact b2j bD _
def a1T(h:s∈r):c s∈cl c r:=by rw[b0A];exact (L6 _ _).mpr (.inr (de h))
def a1U:(cl c r).length=(fs c r).length:=by unfold cl fs;rw[ai,ai]
def a9c:(fs c r).length<=r.length:=by
 have:=a8W (W:=[]) (r.map λs=>(c s,s));unfold fs fc;rw[ai];simpa using this
def a1m(i:Nat)(h:i<(fs c r).length):∃f,(fs c r)[i]?=cz f/\f∈r/\(cl c r)[i]?=cz (c f):=by
 have h1:i<(fc c r).length:=by unfold fs at h;rwa[ai]at h
 refine⟨((fc c r)[i]).2,?_,?_,?_⟩
 ·unfold fs;rw[aQ,ab h1];rfl
 ·exact (a0J (dm h1)).1
 ·unfold cl;rw[aQ,ab h1,<-(a0J (dm h1)).2];rfl
def c0v:cl c r=(fs c r).map c:=by
 unfold cl fs;rw[bC];exact bH λe he=>(a0J he).2
def a4a(h:s∈r):pls c r s<(fs c r).length:=by rw[<-a1U];exact cm.mpr (a1T h)
def b5d(h:s∈r):∃f,(fs c r)[pls c r s]?=cz f/\f∈r/\c f=c s:=by
 obtain⟨f,h1,h2,h3⟩:=a1m (c:=c) (r:=r) _ (a4a h);refine⟨f,h1,h2,?_⟩;have h4:=dX (cm.mpr (a1T (c:=c) h));have h5:=ab (cm.mpr (a1T (c:=c) h));rw[h4]at h5;unfold pls at h3;rw[h5]at h3;exact (aH h3).symm
def Rch.zero(R:Rch m k r):0∈r:=by rw[R.eq];exact (L6 _ _).mpr (.inl (by simp))
def Rch.next(R:Rch m k r){s:Int}(hs:s∈r){a:Int}(h0:0<=a)(h1:a<k):(stp m s a).2∈r:=by
 rw[R.eq];refine (L6 _ _).mpr (.inr (cQ.mpr ⟨s,hs,aI.mpr ⟨a.toNat,bT.mpr (by lia),?_⟩⟩));rw[jz h0]
def a7A(R:Rch m k r):pls c r 0=0:=by
 unfold pls;rw[b0A,R.eq];obtain⟨E,e⟩:=a2O [0] (r.flatMap λs=>(az k).map λ(a:Nat)=>(stp m s a).2);rw[e,aO,V0];obtain⟨E2,e2⟩:=a2O (dkk [] ([0].map c)) (E.map c);rw[e2];show (([]++[c 0])++E2).idxOf (c 0)=0;simp
def G7:(n8 m c r).length=(fs c r).length:=ai ..
def a9d(h:(fs c r)[i]?=cz f):rowAt (n8 m c r) (i:Nat)=(rowAt m f).map λp=>(p.1,(pls c r p.2:Int)):=by
 unfold rowAt n8;rw[bK,af,aQ,h];rfl
def a4b(w:WF m k)(ji:∀s:Int,0<=s->s<m.length->(rowAt m s).length=k){i:Nat}{f:Int}(h:(fs c r)[i]?=cz f)(h0:0<=f)(h1:f<m.length){a:Int}(a0:0<=a)(a1:a<k):stp (n8 m c r) (i:Nat) a=((stp m f a).1,(pls c r (stp m f a).2:Int)):=by
 unfold stp;rw[a9d h,af,aQ];have hl:=ji f h0 h1;rw[ab (by lia),af,ab (by lia)];rfl
def a1V(w:WF m k)(R:Rch m k r):WF (n8 m c r) k:=by
 refine⟨?_,?_,w.k1,w.k5,λx hx=>?_,λx hx p hp=>?_⟩
 ·rw[G7];exact fZ (cG _) (a4a (c:=c) R.zero)
 ·rw[G7];have:=a9c (c:=c) (r:=r);have:=R.len;have:=w.le;lia
 ·obtain⟨f,hf,rfl⟩:=aI.mp hx;rw[ai];obtain⟨e,he,rfl⟩:=aI.mp hf;have h1:=R.range _ (a0J he).1;exact w.rows _ (by
   unfold rowAt;rw[af,ab (by lia)];exact dm _)
 ·obtain⟨f,hf,rfl⟩:=aI.mp hx;obtain⟨q,hq,rfl⟩:=aI.mp hp;obtain⟨e,he,rfl⟩:=aI.mp hf;have h1:=(a0J he).1;have hr:=R.range _ h1;have hm:rowAt m e.2∈m:=by
   unfold rowAt;rw[af,ab (by lia)];exact dm _
  obtain⟨j,hj⟩:=c_.mp hq;have rO:=(aM.mp hj).1;rw[w.rows _ hm]at rO;have hs:stp m e.2 (j:Nat)=q:=by
   unfold stp;rw[bK,af,hj];rfl
  have h2:=R.next h1 (a:=(j:Nat)) (by lia) (by lia);rw[hs]at h2;have h3:=a4a (c:=c) h2;rw[G7];show (0:Int)<=(pls c r q.2:Int)/\(pls c r q.2:Int)<((fs c r).length:Int);lia
def Y5(w:WF m k)(ji:∀s:Int,0<=s->s<m.length->(rowAt m s).length=k)(C:a6i m k c)(R:Rch m k r){s:Int}(hs:s∈r){a:Int}(a0:0<=a)(a1:a<k):stp (n8 m c r) (pls c r s:Int) a=((stp m s a).1,(pls c r (stp m s a).2:Int)):=by
 obtain⟨f,h1,h2,h3⟩:=b5d (c:=c) hs;have r1:=R.range _ h2;have r2:=R.range _ hs;rw[a4b w ji h1 r1.1 r1.2 a0 a1];obtain⟨h4,h5⟩:=C f s r1.1 r1.2 r2.1 r2.2 h3 a a0 a1;rw[h4];unfold pls;rw[h5]
theorem a2w(w:WF m k)(ji:∀s:Int,0<=s->s<m.length->(rowAt m s).length=k)(C:a6i m k c)(R:Rch m k r):∀(p:List Int) {s:Int},s∈r->(∀a∈p,0<=a/\a<(k:Int))->g7 (n8 m c r) (pls c r s:Int) p=((g7 m s p).1,(pls c r (g7 m s p).2:Int))
 |[],s,_,_=>rfl
 |a::p,s,hs,h=>by
  have ha:=h a aL;show ((stp (n8 m c r) (pls c r s:Int) a).1::(g7 (n8 m c r) (stp (n8 m c r) (pls c r s:Int) a).2 p).1,(g7 (n8 m c r) (stp (n8 m c r) (pls c r s:Int) a).2 p).2)=_;rw[Y5 w ji C R hs ha.1 ha.2];show ((stp m s a).1::(g7 (n8 m c r) (pls c r (stp m s a).2:Int) p).1,(g7 (n8 m c r) (pls c r (stp m s a).2:Int) p).2)=_;rw[a2w w ji C R p (R.next hs ha.1 ha.2) λb hb=>h b (aw _ hb)];rfl
end
def AllMet.rch(h:AllMet m k W):Rch m k (W.map (·.1)):=by
 refine⟨?_,λs hs=>?_,by rw[ai];exact h.len,λs hs=>?_⟩
 ·have h1:=b5b W0 (W.flatMap (a4y m k));rw[<-h.eq]at h1;have h2:(W.flatMap (a4y m k)).map (·.1)=(W.map (·.1)).flatMap λs=>(az k).map λ(a:Nat)=>(stp m s a).2:=by
   rw[Fj,List.flatMap_map]
   congr 1
   funext e
   unfold a4y;rw[bC];rfl
  rw[h2]at h1;exact h1
 ·obtain⟨e,he,rfl⟩:=aI.mp hs;exact h.range e he
 ·obtain⟨⟨t,p⟩,he,rfl⟩:=aI.mp hs;exact⟨p,h.leads _ (ay _) he⟩
section
variable {m:i8}{k:Nat}{c:Int->Int}{r:List Int}
def csu(m:i8)(k:Nat)(c:Int->Int)(s:Int):List Int:=(az k).map λ(a:Nat)=>c (stp m s a).2
def c0w(C:a6i m k c){s t:Int}(s0:0<=s)(s1:s<m.length)(t0:0<=t)(t1:t<m.length)(h:c s=c t):csu m k c s=csu m k c t:=by
 unfold csu;exact bH λa ha=>(C s t s0 s1 t0 t1 h a (by lia) (by have:=bT.mp ha;lia)).2
def a9e(C:a6i m k c)(X:List Int):∀(r:List Int),(∀s∈r,0<=s/\s<(m.length:Int))->dkk X (r.flatMap (csu m k c))=dkk X ((fs c r).flatMap (csu m k c)):=by
 intro r
 induction r using snoc_ind with
 |h0=>intro _;rfl
 |h1 r s ih=>
  intro hr;have ih:=ih λs hs=>hr s (aj _ hs)
  have hs:=hr s (by simp);rw[eD,V0,fL,iS,bb];have e:fc c (r++[s])=dd1 (fc c r) (c s,s):=by unfold fc;rw[aO,cy,O5]
  by_cases h:c s∈(fc c r).map (·.1)
  ·have e2:fs c (r++[s])=fs c r:=by unfold fs;rw[e,P2 (c:=(c s,s)) h]
   rw[e2,<-ih];refine b5a λx hx=>(L6 _ _).mpr (.inr ?_)
   obtain⟨f,hf,ef⟩:=aI.mp h;have qX:=a0J hf;have lK:=hr f.2 (aj _ qX.1);rw[c0w C hs.1 hs.2 lK.1 lK.2 (by rw[<-qX.2];exact ef.symm)]at hx;exact cQ.mpr ⟨f.2,qX.1,hx⟩
  ·have e2:fs c (r++[s])=fs c r++[s]:=by unfold fs;rw[e,I9 (c:=(c s,s)) h,aO];rfl
   rw[e2,eD,V0,<-ih,fL,iS,bb]
def a6j(C:a6i m k c)(R:Rch m k r):cl c r=dkk [c 0] ((fs c r).flatMap (csu m k c)):=by
 rw[<-a9e C [c 0] r R.range,b0A];have e:dkk [] (r.map c)=dkk [] ((dkk [0] (r.flatMap λs=>(az k).map λ(a:Nat)=>(stp m s a).2)).map c):=by rw[<-R.eq]
 rw[e,b7w,aO,V0];have e2:(r.flatMap λs=>(az k).map λ(a:Nat)=>(stp m s a).2).map c=r.flatMap (csu m k c):=by
  rw[Fj]
  congr 1
  funext s
  unfold csu;rw[bC];rfl
 rw[e2];rfl
def b7y(C:a6i m k c)(R:Rch m k r){j:Nat}(hj:j<(fs c r).length):j<(dkk [c 0] (((fs c r).take j).flatMap (csu m k c))).length:=by
 refine Nat.lt_of_not_le λhZ=>?_
 have qG:=a6j C R;rw[<-iH j (fs c r),eD,V0]at qG;obtain⟨E,e⟩:=a2O (dkk [c 0] (((fs c r).take j).flatMap (csu m k c))) (((fs c r).drop j).flatMap (csu m k c));rw[e]at qG;have iW:∀x,x∈dkk [c 0] (((fs c r).take j).flatMap (csu m k c))↔x=c 0\/x∈((fs c r).take j).flatMap (csu m k c):=λx=>by rw[L6,aq]
 generalize dkk [c 0] (((fs c r).take j).flatMap (csu m k c))=Zq at hZ qG iW;have vZ:∀x∈Zq,(cl c r).idxOf x<j:=λx hx=>by
  rw[qG,b7x hx];have:=cm.mpr hx;lia
 have vB:∀s∈r,c s∈Zq->∀a:Int,0<=a->a<k->c (stp m s a).2∈Zq:=λs hs hz a a0 a1=>by
  obtain⟨f,h1,h2,h3⟩:=b5d (c:=c) hs;have r1:=R.range _ h2;have r2:=R.range _ hs;rw[<-(C f s r1.1 r1.2 r2.1 r2.2 h3 a a0 a1).2];refine (iW _).mpr (.inr (cQ.mpr ⟨f,?_,aI.mpr ⟨a.toNat,bT.mpr (by lia),by rw[jz a0]⟩⟩));have hp:pls c r s<j:=vZ _ hz;exact bt (i:=pls c r s) (by rw[kF hp];exact h1)
 have gL:∀p:List Int,(∀a∈p,0<=a/\a<(k:Int))->(g7 m 0 p).2∈r/\c (g7 m 0 p).2∈Zq:=by
  intro p
  induction p using snoc_ind with
  |h0=>exact λ_=>⟨R.zero,(iW _).mpr (.inl rfl)⟩
  |h1 p a ih=>
   intro hp;obtain⟨i1,i2⟩:=ih λb hb=>hp b (aj _ hb)
   have ha:=hp a (by simp);rw[U2];exact⟨R.next i1 ha.1 ha.2,vB _ i1 i2 a ha.1 ha.2⟩
 obtain⟨f,f1,f2,f3⟩:=a1m (c:=c) (r:=r) j hj;obtain⟨p,p1,p2⟩:=R.walks f f2;have h1:=(gL p p2).2;rw[p1]at h1;have h2:=vZ _ h1;have hi:(cl c r).idxOf (c f)<(cl c r).length:=cm.mpr (a1T f2);have h3:(cl c r)[(cl c r).idxOf (c f)]?=cz (c f):=by rw[ab hi,dX hi]
 have:=(iq hi Y4).mp (h3.trans f3.symm);lia
def b5e(h:(fs c r)[i]?=cz f):pls c r f=i:=by
 have hi:=(aM.mp h).1;obtain⟨f',f1,f2,f3⟩:=a1m (c:=c) (r:=r) i hi;rw[h]at f1;cases f1
 have hj:(cl c r).idxOf (c f)<(cl c r).length:=cm.mpr (a1T f2);have h3:(cl c r)[(cl c r).idxOf (c f)]?=cz (c f):=by rw[ab hj,dX hj]
 exact (iq hj Y4).mp (h3.trans f3.symm)
end
theorem a4c:∀(l:List D) (j:Nat),F9 l j=(az l.length).map λ(s:Nat)=>cI [.int ((j+s:Nat):Int),l.getD s .none]
 |[],_=>rfl
 |n::ls,k=>by
  show cI [.int k,n]::F9 ls (k+1)=_;rw[a4c ls (k+1),aS,uj,ax,bC]
  congr 1;refine bH λs _=>?_
  show cI [.int ((k+1+s:Nat):Int),ls.getD s .none]=.tuple [.int ((k+(s+1):Nat):Int),(n::ls).getD (s+1) .none];rw[eB,gj,jH 1]
def a1n(f:Nat->D)(k:Nat):F9 ((az k).map f) 0=(az k).map λ(a:Nat)=>cI [.int (a:Int),f a]:=by
 rw[a4c,ai,bF];refine bH λa ha=>?_
 have h:=bT.mp ha;rw[ip,af,aQ,fT h];rfl
end VS
namespace Prog
open PySem L2 VS
abbrev iDl:List Int->D:=λns=>.list (ns.map .int)
abbrev kLs{β:Type}(key:β->D)(l:List β):D:=.list (l.map key)
def b5f[DecidableEq β](K:KeyB yp key){gm:List D->Option D}(hk:k<=5){W:O6 β}{q:List Int}(hq:(b,q)∈W)(mw:(W.map (·.1)).Nodup)(hL:L<=W.length)(hW:W.length<=1000)(tI:q.length<=1000)(s0 sX x y:D) :
  ∃x' y',V8 (a3h 6 7) ((sIf (tB (e2 (dIn yn yp) (a6 7) (a6 2))) (f7 (F6 2 yp (a6 7) (eI (T3 (e2 (a5H yp) (a6 2) (a6 5)) (x5 (a7 (a6 6) c6))))) (J6 4 (.l .i) p6 (a6 7))) z9)) ((az k).map λ(a:Nat)=>cI [.int (a:Int),key (nx b a)]) [s0,.none,.dict (kvB key iDl W),sX,kLs key ((W.drop L).map (·.1)),key b,x,y] =
   cz (.nx [s0,.none,.dict (kvB key iDl (dd W (N9 nx k (b,q)))),sX,kLs key (((dd W (N9 nx k (b,q))).drop L).map (·.1)),key b,x',y']):=by
 obtain⟨Z',g1,x',y',rfl⟩:=t5 (enc:=λ(a:Nat)=>cI [.int (a:Int),key (nx b a)]) (set:=a3h 6 7) (xs:=az k) (g:=(sIf (tB (e2 (dIn yn yp) (a6 7) (a6 2))) (f7 (F6 2 yp (a6 7) (eI (T3 (e2 (a5H yp) (a6 2) (a6 5)) (x5 (a7 (a6 6) c6))))) (J6 4 (.l .i) p6 (a6 7))) z9))
  (Z:=[s0,.none,.dict (kvB key iDl W),sX,kLs key ((W.drop L).map (·.1)),key b,x,y])
  (λpre Z=>∃x y,Z=[s0,.none,.dict (kvB key iDl (dd W (pre.map λ(a:Nat)=>(nx b a,q++[(a:Int)])))),sX,kLs key (((dd W (pre.map λ(a:Nat)=>(nx b a,q++[(a:Int)]))).drop L).map (·.1)),key b,x,y]) ⟨x,y,rfl⟩ (by
   rintro pre a post e Z ⟨x,y,rfl⟩;obtain⟨ea,ha,_⟩:=X9 e;have vL:=a3Z mw (pre.map λ(a:Nat)=>(nx b a,q++[(a:Int)]));have iW:=b7v (pre.map λ(a:Nat)=>(nx b a,q++[(a:Int)])) hq;have hlen:=a8W W (pre.map λ(a:Nat)=>(nx b a,q++[(a:Int)]));have Dw:=b4X W (pre.map λ(a:Nat)=>(nx b a,q++[(a:Int)]));have gT:(pre.map λ(a:Nat)=>(nx b a,q++[(a:Int)])).length<=5:=by rw[ai];lia
   rw[aO,cy,O5];generalize dd W (pre.map λ(a:Nat)=>(nx b a,q++[(a:Int)]))=V at vL iW hlen Dw;have zk:=c0u (enc:=iDl) K vL iW;by_cases c:nx b a∈V.map (·.1)
   ·refine⟨_,[s0,.none,.dict (kvB key iDl V),sX,kLs key ((V.drop L).map (·.1)),key b,.int a,key (nx b a)],rfl,?_,_,_,by rw[P2 c]⟩;have mf:dIn yn yp (key (nx b a)) (.dict (kvB key iDl V))=cz (.bool yp):=by rw[b4V K,aW c];rfl
    walk_at "ev";rw[mf];walk_at "ev"
   ·have mf:dIn yn yp (key (nx b a)) (.dict (kvB key iDl V))=cz (.bool yn):=by rw[b4V K,bg c];rfl
    have Bj:=b4W (W:=V) (c:=(nx b a,q++[(a:Int)])) (L:=L) (by lia);rw[aJ c]at Bj;refine⟨_,[s0,.none,.dict (kvB key iDl (dd1 V (nx b a,q++[(a:Int)]))),sX,kLs key (((dd1 V (nx b a,q++[(a:Int)])).drop L).map (·.1)),key b,.int a,key (nx b a)],rfl,?_,_,_,rfl⟩;have FP:(((V.drop L).map (·.1)).map key).length<1000000:=by rw[ai,ai,gH];lia
    have tD:eI (T3 (e2 (a5H yp) (a6 2) (a6 5)) (x5 (a7 (a6 6) c6))) [s0,.none,.dict (kvB key iDl V),sX,kLs key ((V.drop L).map (·.1)),key b,.int a,key (nx b a)]=cz (iDl (q++[(a:Int)])):=by
     rw[a5a,b0b];walk_at "ev";rw[zk,b4s (by rw[ai];simp;lia)];show lIs (cz (.list (q.map .int++[.int a])))=_;rw[show q.map aK++[aK a]=(q++[(a:Int)]).map .int by rw[aO];rfl,b4M]
    walk_at "ev";rw[mf];walk_at "ev";rw[a8Z (k:=key (nx b a)) (kvs:=kvB key iDl V) tD (by walk_at "ev") (by rfl) (K.ok _) (by rw[b7t];lia),b2i K c,<-I9 (W:=V) (c:=(nx b a,q++[(a:Int)])) c];walk_at "ev";rw[Bj];unfold kLs;rw[aO];rfl)
 exact⟨x',y',g1⟩
def b7z[DecidableEq β](K:KeyB yp key)(hk:k<=5)(h0:P s)(hP:∀b a,P b->a<k->P (nx b a))(hg:∀b,P b->gm [key b]=cz (.list ((az k).map λ(a:Nat)=>key (nx b a))))
  (hB:∀l:List β,l.Nodup->(∀b∈l,P b)->l.length<=B) (Ga:B<=900):∃W:O6 β,O3 gm [key s]=cz (.dict (kvB key iDl W))/\AllB nx k s P W:=by
 have len:∀{dn W:O6 β},MetB nx k s P dn W->W.length<=B:=λ{dn W} h=>by
  have:=hB _ h.nodup λb hb=>by
   obtain⟨e,he,rfl⟩:=aI.mp hb;exact h.ok e he
  rwa[ai]at this
 unfold O3;rw[c2o (by simp[VS.argsOk,K.im])];unfold a2r;have DH:=K.ok s;walk_at "ev";rw[c3J (k:=key s) (d:=.list []) (by walk_at "ev") (by walk_at "ev") DH];walk_at "ev";refine X8 (R:=λr=>∃W:O6 β,r=cz (.dict (kvB key iDl W))/\AllB nx k s P W) (λZ=>∃W x y z u v,Z=[key s,.none,.dict (kvB key iDl W),x,y,z,u,v]/\AllB nx k s P W) ?_ ?_
 ·rw[c0q];obtain⟨Z',g1,W,x,y,z,u,v,rfl,hA⟩:=a2N (c:=(tV (a6 3))) (g:=(f7 (j5 4 (x5 c6)) (f7 (A7 (iI (iL (a6 3))) (r9 5) (A7 (iI (iEn (eCl gm (a7 (a6 5) c6)))) (a3h 6 7) (sIf (tB (e2 (dIn yn yp) (a6 7) (a6 2))) (f7 (F6 2 yp (a6 7) (eI (T3 (e2 (a5H yp) (a6 2) (a6 5)) (x5 (a7 (a6 6) c6))))) (J6 4 (.l .i) p6 (a6 7))) z9))) (j5 3 (a6 4)))))
   (I:=λj Z=>∃(dn nw W:O6 β) (y z u v:D),W=dn++nw/\MetB nx k s P dn W/\j<=dn.length/\Z=[key s,.none,.dict (kvB key iDl W),kLs key (nw.map (·.1)),y,z,u,v])
   (Q:=λZ=>∃W x y z u v,Z=[key s,.none,.dict (kvB key iDl W),x,y,z,u,v]/\AllB nx k s P W) 900 (by
    rintro j Z ⟨dn,nw,W,y,z,u,v,hW,hM,hj,rfl⟩;have FX:=len hM;have zA:dn.length<=W.length:=by rw[hW,aA];lia
    refine⟨by lia,?_⟩;cases nw with
    |nil=>
     rw[bb]at hW;rw[<-hW]at hM;exact .inl ⟨by walk_at "ev";rfl,W,_,_,_,_,_,rfl,hM.all⟩
    |cons e0 nw=>
     refine .inr ⟨by walk_at "ev";rfl,?_⟩;obtain⟨Z',g1,V,z',u',v',rfl,hV,uN⟩:=t5 (enc:=λ(e:β×List Int)=>key e.1) (set:=r9 5) (xs:=e0::nw) (g:=(A7 (iI (iEn (eCl gm (a7 (a6 5) c6)))) (a3h 6 7) (sIf (tB (e2 (dIn yn yp) (a6 7) (a6 2))) (f7 (F6 2 yp (a6 7) (eI (T3 (e2 (a5H yp) (a6 2) (a6 5)) (x5 (a7 (a6 6) c6))))) (J6 4 (.l .i) p6 (a6 7))) z9)))
      (Z:=[key s,.none,.dict (kvB key iDl W),kLs key ((e0::nw).map (·.1)),.list [],z,u,v])
      (λpre Z=>∃(V:O6 β) (z u v:D),Z=[key s,.none,.dict (kvB key iDl V),kLs key ((e0::nw).map (·.1)),kLs key ((V.drop W.length).map (·.1)),z,u,v]/\(∃E,V=W++E)/\MetB nx k s P (dn++pre) V)
      ⟨W,z,u,v,by rw[gI];rfl,⟨[],by rw[bb]⟩,by rw[bb];exact hM⟩ (by
       rintro pre e post he Z ⟨V,z,u,v,rfl,⟨E,hE⟩,uN⟩;obtain⟨b,q⟩:=e;have AY:(b,q)∈W:=by rw[hW,he];simp
       have AZ:(b,q)∈V:=by rw[hE];exact aj _ AY
       have hs:P b:=hM.ok _ AY;have FY:=len uN;have tI:q.length<=1000:=by
        have Ba:q.length<=V.length:=uN.qlen AZ;lia
       have qo:MetB nx k s P ((dn++pre)++[(b,q)]) (dd V (N9 nx k (b,q))):=uN.step hP (nw:=post++E) (by rw[hE,hW,he];simp);obtain⟨x',y',g⟩:=b5f K (gm:=gm) (nx:=nx) hk AZ uN.nodup (L:=W.length) (by rw[hE,aA];lia) (by lia) tI (key s) (kLs key ((e0::nw).map (·.1))) u v;refine⟨_,_,rfl,?_,dd V (N9 nx k (b,q)),key b,x',y',rfl,?_,by rw[<-aN];exact qo⟩
       ·have DV:=hg b hs;walk_at "ev";rw[a1f (ds:=(az k).map λ(a:Nat)=>cI [.int (a:Int),key (nx b a)]) (by rw[c0s (ds:=(az k).map λ(a:Nat)=>key (nx b a)) (by walk_at "ev";exact DV),a1n]) (m6 _ (λj=>by simp only[imm,c9,K.im,er]) _)];walk_at "ev";exact g
       ·obtain⟨E2,EG⟩:=a3Y V (N9 nx k (b,q));exact⟨E++E2,by rw[EG,hE,aN]⟩)
     obtain⟨E,hE⟩:=hV;refine⟨[key s,.none,.dict (kvB key iDl V),kLs key (E.map (·.1)),kLs key ((V.drop W.length).map (·.1)),z',u',v'],?_,dn++(e0::nw),E,V,_,_,_,_,by rw[hE,hW],uN,?_,rfl⟩
     ·walk_at "ev";rw[a1f (ds:=(e0::nw).map λe=>key e.1) (by walk_at "ev";rw[bC];rfl) (m6 _ (λ_=>K.im _) _)];walk_at "ev";refine b4r (λZ=>Z=[key s,.none,.dict (kvB key iDl V),kLs key ((e0::nw).map (·.1)),kLs key ((V.drop W.length).map (·.1)),z',u',v']) ⟨_,g1,rfl⟩ ?_;rintro Z rfl;walk_at "ev";rw[hE,List.drop_left]
     ·rw[aA,aS];lia) 1000000 0 [key s,.none,.dict [(key s,.list [])],.list [key s],.none,.none,.none,.none] ⟨[],WB s,WB s,_,_,_,_,rfl,c2n h0,ay _,rfl⟩ (by lia)
  exact⟨_,g1,W,x,y,z,u,v,rfl,hA⟩
 ·rintro Z ⟨W,x,y,z,u,v,rfl,hA⟩;walk_at "ev";exact⟨W,rfl,hA⟩
def a4d(z:α)(f:α->β)(l:List α):l.map f=(az l.length).map λ(a:Nat)=>f (l.getD a z):=by
 refine iT (by simp) λi h1 h2=>?_
 have hi:i<l.length:=by simpa using h1
 simp[af,ab hi]
def b5g:KeyB yp (λi:Int=>aK i):=⟨λa b=>a2L,λ_=>dKey_i,λ_=>T6⟩
def AllMet.of(w:WF m k)(h:AllB (λs (a:Nat)=>(stp m s a).2) k 0 (λs=>0<=s/\s<(m.length:Int)) W):AllMet m k W:=⟨h.eq,h.sor,h.ok,h.ql⟩
def b0B(w:WF m k):∃W:a0I,u5 [.list (m.map rwD)]=cz (.dict (kvD iDl W))/\AllMet m k W:=by
 have hle:=w.le;have xB:=w.k5;have mv:=w.pos;unfold u5;rw[A8 (by simp[VS.argsOk])];unfold V4;walk_at "ev";rw[c2p (ds:=[.int 0]) (by walk_at "ev")];obtain⟨W,h,hA⟩:=b7z (key:=λi:Int=>aK i) b5g (gm:=fnE [.i] ([0].map λj=>([.list (m.map rwD)]:List D).getD j .none) ((n9 (iI (iL (e2 dIx (a6 1) (a6 0)))) [] pt1 tT (e2 o8 (a6 0) (eC (.int 1)))))) (nx:=λs (a:Nat)=>(stp m s a).2) (k:=k) (by lia) (s:=0) (P:=λs=>0<=s/\s<(m.length:Int)) ⟨xb _,by lia⟩
  (λb a hb ha=>w.nx hb.1 hb.2 (a:=a) (by lia) (by lia))
  (λb hb=>by
   rw[c2q (by simp[VS.argsOk,imm])];have yR:=w.row hb.1 hb.2;show ((n9 (iI (iL (e2 dIx (a6 1) (a6 0)))) [] pt1 tT (e2 o8 (a6 0) (eC (.int 1))))) [.int b,.list (m.map rwD)]=_;rw[L5 (enc:=stD) (xs:=rowAt m b) (λp=>aK p.2) (a1f (by walk_at "ev";rw[a1J hb.1 hb.2];rfl) (m6 _ (λ_=>a1K) _)) (by lia) (λp _=>⟨[stD p],rfl,by unfold stD;walk_at "ev"⟩),<-yR,a4d (0,0) (λp:Int×Int=>aK p.2) (rowAt m b)];rfl) (B:=m.length) (λl hn hl=>nodup_range hn hl) (by lia)
 refine⟨W,?_,AllMet.of w hA⟩;rw[h];rfl
def a9f(w:WF m k):∃W:a0I,a0e [.list (m.map rwD)]=cz (iD (W.map (·.1)))/\AllMet m k W:=by
 obtain⟨W,h,hA⟩:=b0B w;refine⟨W,?_,hA⟩;unfold a0e;rw[A8 (by simp[VS.argsOk])];unfold a5d;walk_at "ev";rw[b7r (W:=W) (enc:=iDl) (by walk_at "ev";exact h)];walk_at "ev"
def at_list{ds:List D}{i:Int}{d:D}(h0:0<=i)(h:ds[i.toNat]?=cz d):L2.atI ds i=cz d:=by
 have hl:=(aM.mp h).1;unfold L2.atI;rw[a3M h0 (by lia)];exact h
def b2k{ns:List D}(g:Int->Int)(hn:∀p∈r,0<=p.2/\ns[p.2.toNat]?=cz (.int (g p.2)))(hl:r.length<=1000):j8 [rwD r,.list ns]=cz (rwD (r.map λp=>(p.1,g p.2))):=by
 unfold j8;rw[A8 (by simp[VS.argsOk])];unfold U4;rw[a9I,a3I (ds:=r.map stD) (λd=>match d with|.tuple [.int a,.int b]=>stD (a,g b)|_=>.none)]
 ·rw[bC];show cz (b_ (r.map _))=_;unfold rwD;rw[bC];rfl
 ·exact a1f (by unfold rwD;walk_at "ev") (m6 _ (λ_=>a1K) r)
 ·rw[ai];lia
 ·intro d hd;obtain⟨p,hp,rfl⟩:=aI.mp hd;have:=hn p hp;refine⟨[.int p.1,.int p.2],rfl,?_⟩;show K1 _ [.int p.1,.int p.2,.list ns]=cz (stD (p.1,g p.2));walk_at "ev";rw[at_list this.1 this.2];walk_at "ev";rfl
abbrev cN(m:i8)(N:Nat):Int->Int:=λs=>(lvl m N).getD s.toNat 0
def b2l{m:i8}(hr:∀s∈r,0<=s/\s<(m.length:Int))(hl:r.length<=1000):y6 [iD r,iD (lvl m N)]=cz (iD (fs (cN m N) r)):=by
 have DC:=U7 m N;unfold y6;rw[A8 (by simp[VS.argsOk])];unfold N7;walk_at "ev";rw[a1f (ds:=r.map aK) (by walk_at "ev") (m6 _ (λ_=>T6) _)];walk_at "ev";refine E7 (λZ=>∃x,Z=[iD r,iD (lvl m N),.dict (kvD aK (fc (cN m N) r)),x]) ?_ ?_
 ·obtain⟨Z',g1,x,rfl⟩:=t5 (enc:=aK) (set:=r9 3) (xs:=r) (g:=(b3v (V3 2 yp (e2 o8 (a6 1) (a6 3)) (a6 3)))) (Z:=[iD r,iD (lvl m N),.dict [],.none])
   (λpre Z=>∃x,Z=[iD r,iD (lvl m N),.dict (kvD aK (dd [] (pre.map λs=>(cN m N s,s)))),x]) ⟨_,rfl⟩ (by
    rintro pre s post e Z ⟨x,rfl⟩;have hs:=hr s (by rw[e];simp);have hlen:=a8W (W:=[]) (pre.map λs=>(cN m N s,s));have gT:pre.length<=1000:=by have:=dE d_ e;simp at this;lia
    rw[ai,gh]at hlen;refine⟨_,[iD r,iD (lvl m N),.dict (kvD aK (dd [] ((pre++[s]).map λs=>(cN m N s,s)))),.int s],rfl,?_,_,rfl⟩;rw[c2m (k:=.int (cN m N s)) (e:=.int s) (kvs:=kvD aK (dd [] (pre.map λs=>(cN m N s,s)))) (by walk_at "ev";rw[R1 hs.1 (by lia)];walk_at "ev") (by walk_at "ev") (by rfl) dKey_i (by rw[b0w];lia) rfl,b7p (enc:=aK),aO,cy,O5];rfl)
  exact⟨_,g1,x,rfl⟩
 ·rintro Z ⟨x,rfl⟩;walk_at "ev";rw[b7s (W:=fc (cN m N) r) (by walk_at "ev")];walk_at "ev";rfl
def plc(c:Int->Int)(F:List Int)(j:Nat):List (Int×Int):=(az j).map λ(i:Nat)=>(c (F.getD i 0),(i:Int))
def b5h(c:Int->Int)(F:List Int)(j:Nat):plc c F (j+1)=plc c F j++[(c (F.getD j 0),(j:Int))]:=by
 unfold plc;rw[jr,aO];rfl
def V1{l:List Int}(h:l[i]?=cz x):l.getD i 0=x:=by rw[af,h];rfl
def b5i:(plc c (fs c r) (fs c r).length).map (·.1)=cl c r:=by
 rw[c0v];unfold plc;rw[bC];refine iT (by simp) λi h1 h2=>?_
 have hi:i<(fs c r).length:=by simpa using h1
 simp only[dF,ny,Function.comp];rw[af,ab hi];rfl
def b5j(w:WF m k):∃(N:Nat) (W:a0I),AllMet m k W/\(∀s t:Int,0<=s->s<m.length->0<=t->t<m.length->lv m N s=lv m N t->lv m (N+1) s=lv m (N+1) t)/\
  U5 [.list (m.map rwD)]=cz (.list ((n8 m (cN m N) (W.map (·.1))).map rwD)):=by
 have hle:=w.le;have xB:=w.k5;obtain⟨N,h1,_,_,hN⟩:=a5j w;obtain⟨W,h2,hA⟩:=a9f w;refine⟨N,W,hA,hN,?_⟩;have R:=hA.rch;have h3:=b2l (m:=m) (N:=N) R.range (by have:=R.len;lia);have DC:=U7 m N;generalize W.map (·.1)=r at h2 R h3;have yR:=R.len;have hfl:=a9c (c:=cN m N) (r:=r);unfold U5;rw[A8 (by simp[VS.argsOk])];unfold b0f;walk_at "ev";rw[h1];walk_at "ev";rw[a6h (f:=λd=>iD (lvl m d))];walk_at "ev";rw[h2];walk_at "ev";rw[h3];walk_at "ev";rw[a1f (ds:=(az (fs (cN m N) r).length).map λ(s:Nat)=>cI [.int ((0+s:Nat):Int),.int ((fs (cN m N) r).getD s 0)]) (by rw[c0s (ds:=(fs (cN m N) r).map .int) (by rfl),a2v]) (m6 _ (λs=>by simp only[imm,c9,er]) _)];walk_at "ev";have xF:=Y4 (c:=cN m N) (r:=r);refine E7 (λZ=>∃x y,Z=[.list (m.map rwD),iD (lvl m N),iD (fs (cN m N) r),.dict (kvD aK (plc (cN m N) (fs (cN m N) r) (fs (cN m N) r).length)),x,y,.none]) ?_ ?_
 ·obtain⟨Z',g1,x,y,rfl⟩:=t5 (enc:=λ(s:Nat)=>cI [.int ((0+s:Nat):Int),.int ((fs (cN m N) r).getD s 0)]) (set:=a3h 4 5) (xs:=az (fs (cN m N) r).length) (g:=(F6 3 yp (e2 o8 (a6 1) (a6 5)) (a6 4)))
   (Z:=[.list (m.map rwD),iD (lvl m N),iD (fs (cN m N) r),.dict [],.none,.none,.none])
   (λpre Z=>∃x y,Z=[.list (m.map rwD),iD (lvl m N),iD (fs (cN m N) r),.dict (kvD aK (plc (cN m N) (fs (cN m N) r) pre.length)),x,y,.none]) ⟨_,_,rfl⟩ (by
    rintro pre j post e Z ⟨x,y,rfl⟩;obtain⟨ej,hj,_⟩:=X9 e;obtain⟨f,f1,f2,f3⟩:=a1m (c:=cN m N) (r:=r) j hj;have lK:=R.range f f2;have xE:=V1 f1;refine⟨_,[.list (m.map rwD),iD (lvl m N),iD (fs (cN m N) r),.dict (kvD aK (plc (cN m N) (fs (cN m N) r) (pre++[j]).length)),.int ((0+j:Nat):Int),.int ((fs (cN m N) r).getD j 0),.none],rfl,?_,_,_,rfl⟩;have zb:cN m N f∉(plc (cN m N) (fs (cN m N) r) pre.length).map (·.1):=by
     intro mf;obtain⟨q,hq,e2⟩:=aI.mp mf;obtain⟨i,hi,rfl⟩:=aI.mp hq;have mO:=bT.mp hi;obtain⟨f',BG,_,BF⟩:=a1m (c:=cN m N) (r:=r) i (by lia);rw[V1 BG]at e2;have e3:cN m N f'=cN m N f:=e2;rw[e3]at BF;have:i=j:=(iq (by rw[a1U];lia) xF).mp (BF.trans f3.symm);lia
    rw[a8Z (k:=.int (cN m N f)) (d:=.int ((0+j:Nat):Int)) (kvs:=kvD aK (plc (cN m N) (fs (cN m N) r) pre.length)) (by walk_at "ev") (by walk_at "ev";rw[xE,R1 lK.1 (by lia)];walk_at "ev") (by rfl) dKey_i (by rw[b0w];unfold plc;rw[ai,bF];lia),b4S (enc:=aK) (x:=((0+j:Nat):Int)) zb,aA,cx,b5h,<-ej,xE,ip];rfl)
  rw[bF]at g1;exact⟨_,g1,x,y,rfl⟩
 ·rintro Z ⟨x,y,rfl⟩;walk_at "ev";have Bb:=b5i (c:=cN m N) (r:=r);have tM:(n9 (iI (iL (a6 1))) [3] pt1 tT (e2 (a3o yp) (a6 1) (a6 0))) [.list (m.map rwD),iD (lvl m N),iD (fs (cN m N) r),.dict (kvD aK (plc (cN m N) (fs (cN m N) r) (fs (cN m N) r).length)),x,y,.none]=cz (.list ((lvl m N).map λz=>if z∈cl (cN m N) r then .int ((cl (cN m N) r).idxOf z:Nat) else .none)):=by
   refine L5 (enc:=aK) (xs:=lvl m N) (λz=>if z∈cl (cN m N) r then .int ((cl (cN m N) r).idxOf z:Nat) else .none) (a1f (by walk_at "ev") (m6 _ (λ_=>T6) _)) (by lia) λz hz=>⟨[.int z],rfl,?_⟩
   show e2 (a3o yp) (a6 1) (a6 0) [.int z,.dict (kvD aK (plc (cN m N) (fs (cN m N) r) (fs (cN m N) r).length))]=_;walk_at "ev";by_cases hc:z∈cl (cN m N) r
   ·rw[aB hc];have hi:=cm.mpr hc;have mO:(cl (cN m N) r).idxOf z<(fs (cN m N) r).length:=by rw[<-a1U];exact hi
    obtain⟨f,f1,_,f3⟩:=a1m (c:=cN m N) (r:=r) _ mO;refine b7q (enc:=aK) (x:=((cl (cN m N) r).idxOf z:Nat)) (by rw[Bb];exact xF) (aI.mpr ⟨(cl (cN m N) r).idxOf z,bT.mpr mO,?_⟩);rw[V1 f1];have h5:=ab hi;rw[dX hi,f3]at h5;rw[aH h5]
   ·rw[aJ hc];exact a8Y (by rw[Bb];exact hc)
  rw[tM];walk_at "ev";have zt:(n9 (iI (iL (a6 2))) [0,6] pt1 tT (eCl j8 (a7 (e2 dIx (a6 1) (a6 0)) (a7 (a6 2) c6)))) [.list (m.map rwD),iD (lvl m N),iD (fs (cN m N) r),.dict (kvD aK (plc (cN m N) (fs (cN m N) r) (fs (cN m N) r).length)),x,y,.list ((lvl m N).map λz=>if z∈cl (cN m N) r then .int ((cl (cN m N) r).idxOf z:Nat) else .none)]=cz (.list ((fs (cN m N) r).map λf=>rwD ((rowAt m f).map λp=>(p.1,(pls (cN m N) r p.2:Int))))):=by
   refine L5 (Z:=[.list (m.map rwD),iD (lvl m N),iD (fs (cN m N) r),.dict (kvD aK (plc (cN m N) (fs (cN m N) r) (fs (cN m N) r).length)),x,y,.list ((lvl m N).map λz=>if z∈cl (cN m N) r then aK ((cl (cN m N) r).idxOf z:Nat) else .none)]) (fi:=iI (iL (a6 2))) (js:=[0,6]) (pt:=pt1) (g:=(eCl j8 (a7 (e2 dIx (a6 1) (a6 0)) (a7 (a6 2) c6)))) (enc:=aK) (xs:=fs (cN m N) r) (λf=>rwD ((rowAt m f).map λp=>(p.1,(pls (cN m N) r p.2:Int)))) (a1f (by walk_at "ev") (m6 _ (λ_=>T6) _)) (by lia) λf hf=>⟨[.int f],rfl,?_⟩
   have lK:f∈r:=by
    obtain⟨e,he,rfl⟩:=aI.mp hf;exact (a0J he).1
   have qX:=R.range f lK;show eCl j8 _ [.int f,.list (m.map rwD),.list ((lvl m N).map λz=>if z∈cl (cN m N) r then aK ((cl (cN m N) r).idxOf z:Nat) else .none)]=_;walk_at "ev";rw[a1J qX.1 qX.2];walk_at "ev";refine b2k (λs=>(pls (cN m N) r s:Int)) (λp hp=>?_) (by rw[w.row qX.1 qX.2];lia);obtain⟨j,hj⟩:=c_.mp hp;have rO:=(aM.mp hj).1;rw[w.row qX.1 qX.2]at rO;have hs:stp m f (j:Nat)=p:=by
    unfold stp;rw[bK,af,hj];rfl
   have h6:=R.next lK (a:=(j:Nat)) (by lia) (by lia);rw[hs]at h6;have h7:=R.range _ h6;refine⟨h7.1,?_⟩;rw[aQ,ab (by lia)];have h8:(lvl m N)[p.2.toNat]'(by lia)=cN m N p.2:=by
    show _=(lvl m N).getD p.2.toNat 0;rw[af,ab (by lia)];rfl
   show cz (if (lvl m N)[p.2.toNat]'(by lia)∈cl (cN m N) r then aK ((cl (cN m N) r).idxOf ((lvl m N)[p.2.toNat]'(by lia)):Nat) else .none)=_;rw[h8,aB (a1T h6)];rfl
  rw[zt];walk_at "ev";unfold n8;rw[bC];rfl
end Prog
namespace VS
open PySem L2
def nxs(L:i8)(k:Nat)(i:Nat):List Int:=(az k).map λ(a:Nat)=>(stp L (i:Nat) a).2
def ofR(c:Nat):List Int:=(az c).map λ(i:Nat)=>(i:Int)
def Sim(k:Nat)(L M:i8)(i j:Int):Prop:=∀p:List Int,(∀a∈p,0<=a/\a<(k:Int))->(g7 L i p).1=(g7 M j p).1
structure Can (L:i8) (k:Nat):Prop where
 wf:WF L k
 all:dkk [0] ((az L.length).flatMap (nxs L k))=ofR L.length
 lead:∀j,j<L.length->j<(dkk [0] ((az j).flatMap (nxs L k))).length
 apart:∀i j:Nat,i<L.length->j<L.length->Sim k L L i j->i=j
def Sim.step{k:Nat}{L M:i8}{i j:Int}(h:Sim k L M i j){a:Int}(h0:0<=a)(h1:a<k):(stp L i a).1=(stp M j a).1/\Sim k L M (stp L i a).2 (stp M j a).2:=by
 constructor
 ·have:=h [a] (λb hb=>by rw[aq.mp hb];exact⟨h0,h1⟩);simpa[g7]using this
 ·intro p hp;have:=h (a::p) (λb hb=>by
   rcases aD.mp hb with z|z
   ·rw[z];exact⟨h0,h1⟩
   ·exact hp b z)
  simp only[g7]at this;exact (si this).2
def b7A:x∈ofR c↔0<=x/\x<(c:Int):=by
 unfold ofR;rw[aI]
 constructor
 ·rintro⟨i,hi,rfl⟩;have:=bT.mp hi;lia
 ·rintro⟨h0,h1⟩;exact⟨x.toNat,bT.mpr (by lia),by lia⟩
def b0C(c:Nat):(ofR c).length=c:=by unfold ofR;simp
def b5k(c j:Nat)(h:j<=c):(ofR c).take j=ofR j:=by
 unfold ofR;rw[<-sg,pO,jq h]
def b7B(h:j<c):(ofR c)[j]?=cz (j:Int):=by
 unfold ofR;rw[aQ,fT h];rfl
def Can.pre(C:Can L k)(h:(az L.length).flatMap (nxs L k)=Zq++Y):dkk [0] Zq=ofR (dkk [0] Zq).length:=by
 have h1:=C.all;rw[h,V0]at h1;obtain⟨E,e⟩:=a2O (dkk [0] Zq) Y;rw[e]at h1;have h2:=dE d_ h1;rw[aA,b0C]at h2;have h3:=dE (List.take (dkk [0] Zq).length) h1;rw[List.take_left,b5k _ _ (by lia)]at h3;exact h3
def b2m(h:j<n):az n=az j++j::(az (n-j-1)).map (λi=>j+1+i):=by
 have:n=j+(1+(n-j-1)):=by lia
 conv=>lhs;rw[this]
 rw[List.range_add,List.range_add,aO]
 congr 1;show _=[j]++_
 congr 1;rw[bC];refine bH λi _=>?_
 show j+(1+i)=j+1+i;lia
def b5l(K:List Int):∀(L:List Int),(∀x∈K++L,∀y∈K++L,f x=f y->x=y)->dkk (K.map f) (L.map f)=(dkk K L).map f:=by
 intro L
 induction L using snoc_ind with
 |h0=>intro _;rfl
 |h1 L x ih=>
  intro h;have ih:=ih λa ha b hb=>h a (by rw[<-aN];exact aj _ ha) b (by rw[<-aN];exact aj _ hb)
  rw[aO,cy,C1,C1,ih];by_cases c:x∈dkk K L
  ·rw[U8 c,U8 (de c)]
  ·have hn:f x∉(dkk K L).map f:=λhm=>by
    obtain⟨y,hy,e⟩:=aI.mp hm;have CN:y∈K++(L++[x]):=by
     rcases (L6 K L).mp hy with z|z
     ·exact aj _ z
     ·exact ah _ (aj _ z)
    have:=h y CN x (by simp) e;exact c (this▸hy)
   rw[U9 c,U9 hn,aO];rfl
section
variable {m:i8}{k:Nat}{c:Int->Int}{r:List Int}
def b2n(w:WF m k)(ji:∀s:Int,0<=s->s<m.length->(rowAt m s).length=k)(R:Rch m k r){i:Nat}{f:Int}(h:(fs c r)[i]?=cz f)(hf:f∈r):nxs (n8 m c r) k i=(csu m k c f).map λx=>((cl c r).idxOf x:Int):=by
 unfold nxs csu;rw[bC];refine bH λa ha=>?_
 have hr:=R.range f hf;have:=bT.mp ha;rw[a4b w ji h hr.1 hr.2 (by lia) (by lia)];rfl
theorem a4e(w:WF m k)(ji:∀s:Int,0<=s->s<m.length->(rowAt m s).length=k)(R:Rch m k r):∀j,j<=(fs c r).length->(az j).flatMap (nxs (n8 m c r) k)=(((fs c r).take j).flatMap (csu m k c)).map λx=>((cl c r).idxOf x:Int)
 |0,_=>by simp
 |j+1,h=>by
  obtain⟨f,f1,f2,f3⟩:=a1m (c:=c) (r:=r) j (by lia);rw[jr,eD,a4e w ji R j (by lia),BW,f1,eD,aO]
  congr 1;show [j].flatMap _=([f].flatMap _).map _;rw[fL,iS,bb,fL,iS,bb,b2n w ji R f1 f2]
def b2o(w:WF m k)(ji:∀s:Int,0<=s->s<m.length->(rowAt m s).length=k)(C:a6i m k c)(R:Rch m k r)(rQ:∀i j:Nat,i<(n8 m c r).length->j<(n8 m c r).length->Sim k (n8 m c r) (n8 m c r) i j->i=j):Can (n8 m c r) k:=by
 have hL:(n8 m c r).length=(fs c r).length:=G7;have hz:=a7A (c:=c) R;have qf:([0]:List Int)=[c 0].map λx=>((cl c r).idxOf x:Int):=by
  show [(0:Int)]=[((pls c r 0:Nat):Int)];rw[hz];rfl
 have iW:∀j,∀x∈[c 0]++((fs c r).take j).flatMap (csu m k c),x∈cl c r:=λj x hx=>by
  rw[a6j C R];refine (L6 _ _).mpr ?_;rcases ao.mp hx with z|z
  ·exact .inl z
  ·obtain⟨f,hf,hx⟩:=cQ.mp z;exact .inr (cQ.mpr ⟨f,List.mem_of_mem_take hf,hx⟩)
 have hd:∀j,j<=(fs c r).length->dkk [0] ((az j).flatMap (nxs (n8 m c r) k))=(dkk [c 0] (((fs c r).take j).flatMap (csu m k c))).map λx=>((cl c r).idxOf x:Int):=λj hj=>by
  rw[a4e w ji R j hj,qf];exact b5l _ _ λx hx y hy e=>b5c (iW j x hx) (iW j y hy) (by lia)
 refine⟨a1V w R,?_,λj hj=>?_,rQ⟩
 ·rw[hL,hd _ (ay _),oO,<-a6j C R];refine iT (by rw[ai,b0C,a1U]) λi i1 i2=>?_
  have hi:i<(cl c r).length:=by simpa using i1
  rw[dF];have h2:=b7B (c:=(fs c r).length) (j:=i) (by rw[<-a1U];exact hi);rw[ab i2]at h2;rw[aH h2];have hj:(cl c r).idxOf (cl c r)[i]<(cl c r).length:=cm.mpr (dm hi);have h3:(cl c r)[(cl c r).idxOf (cl c r)[i]]?=(cl c r)[i]?:=by rw[ab hj,dX hj,ab hi]
  have:=(iq hj Y4).mp h3;lia
 ·rw[hL]at hj;rw[hd j (by lia),ai];exact b7y C R hj
end
end VS
namespace Prog
open PySem L2 VS
local macro_rules | `(tactic| walk_at "evc")=>`(tactic| first | (walk_at "ev";repeat (simp -implicitDefEqProofs (disch:=first | omega | assumption | decide) only [Prog.cell_eq];try walk_at "ev")) | (simp -implicitDefEqProofs (disch:=first | omega | assumption | decide) only [Prog.cell_eq];repeat (first | walk_at "ev" | simp -implicitDefEqProofs (disch:=first | omega | assumption | decide) only [Prog.cell_eq])))
def b7C(w:WF m k)(hN:∀s t:Int,0<=s->s<m.length->0<=t->t<m.length->lv m N s=lv m N t->lv m (N+1) s=lv m (N+1) t):a6i m k (cN m N):=by
 intro s t s0 s1 t0 t1 e a a0 a1;have h:=(L4 w s0 s1 t0 t1).mp (hN s t s0 s1 t0 t1 e);exact h a a0 a1
theorem b5m{L:i8}{k:Nat}(w:WF L k):∀(d:Nat) {i j:Int},0<=i->i<L.length->0<=j->j<L.length->Sim k L L i j->lv L d i=lv L d j
 |0,i,j,_,_,_,_,_=>by rw[z7,z7]
 |d+1,i,j,i0,i1,j0,j1,h=>by
  refine (L4 w i0 i1 j0 j1).mpr λa a0 a1=>?_
  obtain⟨h1,h2⟩:=h.step a0 a1;have n1:=w.nx i0 i1 a0 a1;have n2:=w.nx j0 j1 a0 a1;exact⟨h1,b5m w d n1.1 n1.2 n2.1 n2.2 h2⟩
theorem a2x{m:i8}{k:Nat}(w:WF m k){c:Int->Int}{r:List Int}(C:a6i m k c)(R:Rch m k r):∀(d:Nat) {s t:Int},s∈r->t∈r->lv (n8 m c r) d (pls c r s:Int)=lv (n8 m c r) d (pls c r t:Int)->lv m d s=lv m d t
 |0,s,t,_,_,_=>by rw[z7,z7]
 |d+1,s,t,hs,ht,h=>by
  have wL:=a1V (c:=c) w R;have ji:∀s:Int,0<=s->s<m.length->(rowAt m s).length=k:=λs h0 h1=>w.row h0 h1
  have s1:=R.range s hs;have t1:=R.range t ht;have p1:=a4a (c:=c) hs;have p2:=a4a (c:=c) ht;rw[<-G7 (m:=m)]at p1 p2;refine (L4 w s1.1 s1.2 t1.1 t1.2).mpr λa a0 a1=>?_
  obtain⟨h1,h2⟩:=(L4 wL (by lia) (by lia) (by lia) (by lia)).mp h a a0 a1;rw[Y5 w ji C R hs a0 a1,Y5 w ji C R ht a0 a1]at h1 h2;exact⟨h1,a2x w C R d (R.next hs a0 a1) (R.next ht a0 a1) h2⟩
def b2p(w:WF m k):∃L:i8,U5 [.list (m.map rwD)]=cz (.list (L.map rwD))/\Can L k/\Sim k L m 0 0/\L.length<=m.length:=by
 obtain⟨N,W,hA,hN,zf⟩:=b5j w;have R:=hA.rch;have hC:=b7C w hN;have wL:=a1V (c:=cN m N) w R;have ji:∀s:Int,0<=s->s<m.length->(rowAt m s).length=k:=λs h0 h1=>w.row h0 h1
 have hlen:(n8 m (cN m N) (W.map (·.1))).length=(fs (cN m N) (W.map (·.1))).length:=G7;refine⟨_,zf,b2o w ji hC R λi j hi hj hs=>?_,λp hp=>?_,?_⟩
 ·obtain⟨f,f1,f2,f3⟩:=a1m (c:=cN m N) (r:=W.map (·.1)) i (by lia);obtain⟨g,g1,g2,g3⟩:=a1m (c:=cN m N) (r:=W.map (·.1)) j (by lia);have e2:lv (n8 m (cN m N) (W.map (·.1))) N (pls (cN m N) (W.map (·.1)) f:Int)=lv (n8 m (cN m N) (W.map (·.1))) N (pls (cN m N) (W.map (·.1)) g:Int):=by
   rw[b5e f1,b5e g1];exact b5m wL N (by lia) (by lia) (by lia) (by lia) hs
  have e4:cN m N f=cN m N g:=a2x w hC R N f2 g2 e2;rw[e4]at f3;exact (iq (by rw[a1U];lia) Y4).mp (f3.trans g3.symm)
 ·have:=a2w w ji hC R p R.zero hp;rw[a7A R,show ((0:Nat):Int)=0 from rfl]at this;rw[this]
 ·rw[hlen];have h1:(fs (cN m N) (W.map (·.1))).length<=(W.map (·.1)).length:=a9c;have h2:=R.len;lia
end Prog
namespace VS
open PySem L2
def wyD(W:a0I)(s:Nat):D:=(v6 (kvD (λns:List Int=>b_ (ns.map .int)) W) (.int s)).getD .none
def c0x{W:a0I}(hn:(W.map (·.1)).Nodup){s:Nat}{p:List Int}(h:((s:Int),p)∈W):wyD W s=.list (p.map .int):=by
 unfold wyD;rw[b0y hn h];rfl
def b5n(W:a0I)(n:Nat):List D:=(az n).map (wyD W)
end VS
namespace Prog
open PySem L2 VS
def b5o(w:WF m k)(h:u5 [.list (m.map rwD)]=cz (.dict (kvD iDl W))):a0H [.list (m.map rwD)]=cz (.list (b5n W m.length)):=by
 have hle:=w.le;unfold a0H;rw[A8 (by simp[VS.argsOk])];unfold b4B;walk_at "ev";rw[h];walk_at "ev";have hd:a5N 1 (eCl B8 (a7 (a6 0) c6)) [.list (m.map rwD),.dict (kvD iDl W)]=cz (.list (b5n W m.length)):=by
  unfold a5N;have h1:eCl B8 (a7 (a6 0) c6) [.list (m.map rwD),.dict (kvD iDl W)]=cz (.int m.length):=by walk_at "ev"
  rw[h1];show (if 0<=(m.length:Int)/\(m.length:Int)<=1000000 then cz (b_ ((l7 0 (m.length:Int).toNat).map λk=>(v6 (kvD iDl W) k).getD .none)) else xn)=_;rw[aB ⟨by lia,by lia⟩,bK,a5b,bC];rfl
 rw[hd];walk_at "ev"
def b7D(w:WF m k):∃W:a0I,AllMet m k W/\a0H [.list (m.map rwD)]=cz (.list (b5n W m.length)):=by
 obtain⟨W,h,hA⟩:=b0B w;exact⟨W,hA,b5o w h⟩
abbrev GA:=List (List Int×List Int)
def C5(a:List Int):D:=.tuple (a.map .int)
def a7B(a b:List Int):aF (C5 a) (C5 b)=decide (a=b):=by
 unfold C5;simp only[aF];exact a3J a b
theorem a2y:∀a:List Int,o7 (a.map aK)=yn
 |[]=>by simp only[cZ,o7]
 |n::a=>by simp only[ax,o7,B6,a2y a,er]
def a9g(a:List Int):(C5 a).depth<=7:=by
 unfold C5;simp only[dN];have:=G0 aK 0 (λ_=>by rw[a1I];exact ay _) a;lia
def b2q(a:List Int):B6 (C5 a)=yn:=by
 unfold C5;simp only[B6];exact a2y a
def b2r(a:List Int):s9 yn (C5 a)=yn:=by
 unfold s9;rw[b2q,aW (a9g a)];rfl
def dKey_i(e:Int):s9 yp (.int e)=yn:=by
 unfold s9;rw[show B6 (.int e)=yn by simp only[B6],show (aK e).depth=0 from a1I];rfl
structure DdOk (f:Int->List Int×Int) (ss:List Int) (dd:GA):Prop where
 nd:(dd.map (·.1)).Nodup
 keys:∀a,a∈dd.map (·.1)↔∃s∈ss,(f s).1=a
 mem:∀q∈dd,∀e,e∈q.2↔∃s∈ss,f s=(q.1,e)
 nd2:∀q∈dd,q.2.Nodup
 len:dd.length<=ss.length
 b9R:∀q∈dd,q.2.length<=ss.length
theorem a4f:∀as:List (List Int),a9R yn (as.map C5)=cz as
 |[]=>rfl
 |a::as=>by
  have h:intsOf (a.map aK)=cz a:=by
   induction a with
   |nil=>rfl
   |cons n a ih=>rw[ax];show (intsOf (a.map aK)).map (n::·)=_;rw[ih];rfl
  rw[ax];show (intsOf (a.map aK)).bind _=_;rw[h,fq,a4f as];rfl
end Prog
namespace VS
open PySem L2
def c2r{Z:List D}(hf:f Z=cz (.int n))(h:Z.getD i .none=.int k):b3y i f Z=cz (.nx (Z.set i (.int (k+n)))):=by
 unfold b3y;rw[hf,h];rfl
def mny(m:i8)(D:Nat)(s t:Int):Nat:=(az (D+1)).countP λd=>decide (lv m d s=lv m d t)
def V7(m:i8)(D:Nat)(s t:Int):bj:=if mny m D s t=D+1 then .none else .list ((fu m (mny m D s t) s t).map .int)
def a7C{m:i8}{k:Nat}(w:WF m k)(D:Nat){s t:Int}(h0:0<=s)(h1:s<m.length)(h2:0<=t)(h3:t<m.length):1<=mny m D s t/\mny m D s t<=D+1/\(∀d<mny m D s t,lv m d s=lv m d t)/\∀d,mny m D s t<=d->d<=D->lv m d s≠lv m d t:=by
 obtain⟨c,e,c1,c2,c3⟩:=a3W (p:=λd=>decide (lv m d s=lv m d t)) (λd hd=>aW (a6b w d h0 h1 h2 h3 (bz hd))) (D+1);have e':mny m D s t=c:=e;rw[e'];refine⟨?_,c1,λd hd=>bz (c2 d hd),λd hd jX=>jJ (c3 d hd (by lia))⟩;rcases dH 0 c with z|z
 ·exact z
 ·have:=jJ (c3 0 (by lia) (by lia));exact absurd (by rw[z7,z7]) this
end VS
namespace Prog
open PySem L2 VS
def a9h{r r':Ky}(hl:r.length=r'.length)(iU:r≠r')(h5:r.length<=1000):u6 [rwD r,rwD r']=cz (.int (fp r r':Nat)):=by
 unfold u6;rw[A8 (by simp[VS.argsOk])];unfold V5;walk_at "ev";rw[c0q];obtain⟨f1,f2,f3⟩:=a6c hl iU;obtain⟨Z',h1,rfl⟩:=a2N (c:=tB (e2 dEq (e2 o8 (a6 0) (a6 2)) (e2 o8 (a6 1) (a6 2)))) (g:=b3y 2 (eC (.int 1)))
  (I:=λj Z=>Z=[rwD r,rwD r',.int (j:Nat)]/\j<=fp r r') (Q:=λZ=>Z=[rwD r,rwD r',.int (fp r r':Nat)]) 1000
  (by
   rintro j Z ⟨rfl,hj⟩;refine⟨by lia,?_⟩;have hc:tB (e2 dEq (e2 o8 (a6 0) (a6 2)) (e2 o8 (a6 1) (a6 2))) [rwD r,rwD r',.int (j:Nat)]=cz (decide (r.getD j (0,0)=r'.getD j (0,0))):=by
    walk_at "ev";rw[a8O (by lia) (by lia),a8O (by lia) (by lia)];walk_at "ev";rw[c0r];walk_at "ev";rw[bK]
   rw[hc];rcases dH j (fp r r') with z|z
   ·refine .inr ⟨by rw[aW (f3 j z)],[rwD r,rwD r',.int ((j+1:Nat):Int)],?_,rfl,z⟩;rw[c2r (n:=1) (k:=(j:Nat)) rfl rfl];rfl
   ·have e:j=fp r r':=by lia
    subst e;exact .inl ⟨by rw[bg f2],rfl⟩) 1000000 0 [rwD r,rwD r',.int 0] ⟨rfl,cG _⟩ (by lia)
 rw[h1];walk_at "ev"
theorem a2z(w:WF m k)(uB mn:D):∀(c:Nat) (s t:Int) (p:List Int) (x y:D),0<=s->s<m.length->0<=t->t<m.length->(c≠0->lv m c s≠lv m c t)->lv m (c-1) s=lv m (c-1) t->p.length+c<1000000->
  ∃s' t' x' y',V8 (r9 6) (f7 (j5 7 (eCl u6 (a7 (eCl j8 (a7 (e2 dIx (a6 0) (a6 2)) (a7 (a6 6) c6))) (a7 (eCl j8 (a7 (e2 dIx (a6 0) (a6 3)) (a7 (a6 6) c6))) c6)))) (f7 (J6 5 (.l .i) p6 (a6 7)) (f7 (j5 2 (e2 o8 (e2 o8 (e2 dIx (a6 0) (a6 2)) (a6 7)) (eC (.int 1)))) (j5 3 (e2 o8 (e2 o8 (e2 dIx (a6 0) (a6 3)) (a6 7)) (eC (.int 1)))))))
   ((az c).map λd=>iD (lvl m d)).reverse [.list (m.map rwD),uB,.int s,.int t,mn,iD p,x,y]=cz (.nx [.list (m.map rwD),uB,.int s',.int t',mn,iD (p++fu m c s t),x',y'])
 |0,s,t,p,x,y,_,_,_,_,_,_,_=>by
  refine⟨s,t,x,y,?_⟩;show cz _=cz _;rw[show fu m 0 s t=[] from rfl,bb]
 |c+1,s,t,p,x,y,h0,h1,h2,h3,iU,heq,hlen=>by
  rw[jr,aO,List.reverse_append];have vJ:=iU (by lia);obtain⟨⟨a0,a1⟩,f2,_⟩:=b0o w h0 h1 h2 h3 vJ;have n1:=w.nx h0 h1 a0 a1;have n2:=w.nx h2 h3 a0 a1;have l1:=w.row h0 h1;have l2:=w.row h2 h3;have xB:=w.k5;have Dp:c≠0->lv m c (stp m s (fa m c s t)).2≠lv m c (stp m t (fa m c s t)).2:=λhc=>by
   obtain⟨c',rfl⟩:∃c',c=c'+1:=⟨c-1,by lia⟩;have:=(L4 w h0 h1 h2 h3).mp heq _ a0 a1;exact f2.resolve_left (λz=>z this.1)
  have Dq:lv m (c-1) (stp m s (fa m c s t)).2=lv m (c-1) (stp m t (fa m c s t)).2:=by
   cases c with
   |zero=>rw[z7,z7]
   |succ c'=>exact ((L4 w h0 h1 h2 h3).mp heq _ a0 a1).2
  obtain⟨s',t',x',y',ih⟩:=a2z w uB mn c (stp m s (fa m c s t)).2 (stp m t (fa m c s t)).2 (p++[fa m c s t]) (iD (lvl m c)) (.int (fa m c s t)) n1.1 n1.2 n2.1 n2.2 Dp Dq (by rw[aA];simp only[cx];lia);refine⟨s',t',x',y',?_⟩;show (r9 6 _ (iD (lvl m c))).bind _=_;show Option.bind (f7 _ _ [.list (m.map rwD),uB,.int s,.int t,mn,iD p,iD (lvl m c),y]) _=_;have hb:f7 (j5 7 (eCl u6 (a7 (eCl j8 (a7 (e2 dIx (a6 0) (a6 2)) (a7 (a6 6) c6))) (a7 (eCl j8 (a7 (e2 dIx (a6 0) (a6 3)) (a7 (a6 6) c6))) c6)))) (f7 (J6 5 (.l .i) p6 (a6 7)) (f7 (j5 2 (e2 o8 (e2 o8 (e2 dIx (a6 0) (a6 2)) (a6 7)) (eC (.int 1)))) (j5 3 (e2 o8 (e2 o8 (e2 dIx (a6 0) (a6 3)) (a6 7)) (eC (.int 1)))))) [.list (m.map rwD),uB,.int s,.int t,mn,iD p,iD (lvl m c),y]
    = cz (.nx [.list (m.map rwD),uB,.int (stp m s (fa m c s t)).2,.int (stp m t (fa m c s t)).2,mn,iD (p++[fa m c s t]),iD (lvl m c),.int (fa m c s t)]):=by
   walk_at "ev";rw[a1J h0 h1,a1J h2 h3];walk_at "ev";rw[P3 (λq hq=>by rw[U7];exact w.next _ (G5 h0 h1) q hq) (by lia),P3 (λq hq=>by rw[U7];exact w.next _ (G5 h2 h3) q hq) (by lia)];walk_at "ev";rw[a9h (by rw[a1R,a1R,l1,l2]) (λe=>vJ ((a6a h0 h1 h2 h3).mpr e)) (by rw[a1R,l1];lia)];walk_at "ev";unfold iD;rw[a1z (by rw[ai];lia)];walk_at "ev";have wY:fa m c s t<((rowAt m s).length:Int):=by rw[l1];exact a1
   have BR:fa m c s t<((rowAt m t).length:Int):=by rw[l2];exact a1
   unfold fa at a0 wY BR;rw[a1J h0 h1];walk_at "ev";rw[a8O a0 wY];walk_at "ev";rw[a1J h2 h3];walk_at "ev";rw[a8O a0 BR];walk_at "ev";rw[aO];rfl
  rw[hb];have AK:=ih;rw[aN]at AK;exact AK
def b2s{m:i8}{k:Nat}(w:WF m k){D:Nat}(hD:D<=1000){s t:Int}(h0:0<=s)(h1:s<m.length)(h2:0<=t)(h3:t<m.length):A0 [.list (m.map rwD),.list ((az (D+1)).map λd=>iD (lvl m d)),.int s,.int t]=cz (V7 m D s t):=by
 unfold A0;rw[A8 (by simp[VS.argsOk,imm])];unfold Y1;obtain⟨c1,c2,c3,c4⟩:=a7C w D h0 h1 h2 h3;have hc:e2 a3p (n9 (iL (a6 1)) [2,3] pt1 tT (e2 dEq (e2 o8 (a6 0) (a6 1)) (e2 o8 (a6 0) (a6 2)))) (eC (.bool yn)) [.list (m.map rwD),.list ((az (D+1)).map λd=>iD (lvl m d)),.int s,.int t,.none,.none,.none,.none]=cz (.int (mny m D s t)):=by
  rw[v_2,L5 (enc:=λd=>iD (lvl m d)) (xs:=az (D+1)) (λd=>.bool (decide (lv m d s=lv m d t)))]
  ·have e:(az (D+1)).map (λd=>cV (decide (lv m d s=lv m d t)))=((az (D+1)).map λd=>decide (lv m d s=lv m d t)).map cV:=by rw[bC];rfl
   rw[e,v_c,b9d,v_count,Gv];rfl
  ·walk_at "ev"
  ·rw[bF];lia
  ·intro d hd;refine⟨[iD (lvl m d)],rfl,?_⟩;show e2 dEq _ _ [iD (lvl m d),.int s,.int t]=_;walk_at "ev";rw[R1 h0 (by rw[U7];exact h1),R1 h2 (by rw[U7];exact h3)];walk_at "ev";rfl
 rw[bp,bp,bp,bp,bx,Q3,b3l];show a1x (thn (b6l 4 (e2 a3p (n9 (iL (a6 1)) [2,3] pt1 tT (e2 dEq (e2 o8 (a6 0) (a6 1)) (e2 o8 (a6 0) (a6 2)))) (eC (.bool yn)) [.list (m.map rwD),.list ((az (D+1)).map λd=>iD (lvl m d)),.int s,.int t,.none,.none,.none,.none]) [.list (m.map rwD),.list ((az (D+1)).map λd=>iD (lvl m d)),.int s,.int t,.none,.none,.none,.none]) _)=_;rw[hc];walk_at "ev";rw[bF];by_cases c:mny m D s t=D+1
 ·rw[aW (show ((mny m D s t:Nat):Int)=((D+1:Nat):Int) by lia)];walk_at "ev";unfold V7;rw[aB c]
 ·rw[bg (show ¬ ((mny m D s t:Nat):Int)=((D+1:Nat):Int) by lia)];walk_at "ev";rw[c3H (ds:=(az (mny m D s t)).map λd=>iD (lvl m d))]
  ·obtain⟨s',t',x',y',h⟩:=a2z w (.list ((az (D+1)).map λd=>iD (lvl m d))) (.int (mny m D s t:Nat)) (mny m D s t) s t [] .none .none h0 h1 h2 h3 (λ_=>c4 _ (ay _) (by lia)) (c3 _ (by lia)) (by simp only[gh];lia);walk_at "ev";have h':=h;unfold iD at h' ⊢;rw[cZ]at h';rw[h'];walk_at "ev";unfold V7;rw[aJ c]
  ·rw[b7c];walk_at "ev";rw[b0d,b0e];walk_at "ev";rw[b7d,b0c,a8N (by lia) (by rw[ai,bF];lia),<-sg,bK,pO,jq (by lia)]
def c2s(m:i8)(n D:Nat):bj:=.list ((az n).map λ(s:Nat)=>.list ((az n).map λ(t:Nat)=>V7 m D s t))
def a4z{m:i8}{k:Nat}(w:WF m k){D:Nat}(hD:D<=1000){s:Int}(h0:0<=s)(h1:s<m.length):E8 [.list (m.map rwD),.list ((az (D+1)).map λd=>iD (lvl m d)),.int s]=cz (.list ((az m.length).map λ(t:Nat)=>V7 m D s t)):=by
 unfold E8;rw[A8 (by simp[VS.argsOk,imm])];unfold a1g;have:=w.le;rw[a9I,a5U (n:=m.length) (λ(t:Nat)=>V7 m D s t) (by walk_at "ev") (by lia) (by lia) (λt ht=>?_)]
 ·rw[bK];rfl
 ·show eCl A0 _ [.int t,.list (m.map rwD),.list ((az (D+1)).map λd=>iD (lvl m d)),.int s]=_;walk_at "ev";exact b2s w hD h0 h1 (by lia) ht
def b5p{m:i8}{k:Nat}(w:WF m k){D:Nat}(h1:C9 [.list (m.map rwD)]=cz (.list ((az (D+1)).map λd=>iD (lvl m d))))(hD:D<=1000):a1i [.list (m.map rwD)]=cz (c2s m m.length D):=by
 have:=w.le;unfold a1i;rw[A8 (by simp[VS.argsOk])];unfold b0g;walk_at "ev";rw[h1];walk_at "ev";rw[a5U (n:=m.length) (λ(s:Nat)=>.list ((az m.length).map λ(t:Nat)=>V7 m D s t)) (by walk_at "ev") (by lia) (by lia) (λs hs=>?_)]
 ·rw[bK];rfl
 ·show eCl E8 _ [.int s,.list (m.map rwD),.list ((az (D+1)).map λd=>iD (lvl m d))]=_;walk_at "ev";exact a4z w hD (by lia) hs
def b5q{m:i8}{k:Nat}(w:WF m k):∃D:Nat,a1i [.list (m.map rwD)]=cz (c2s m m.length D)/\D+1<=m.length/\
  ∀s t:Int,0<=s->s<m.length->0<=t->t<m.length->lv m D s=lv m D t->lv m (D+1) s=lv m (D+1) t:=by
 obtain⟨D,h1,h2,h3,h4⟩:=a5j w;have:=w.le;exact⟨D,b5p w h1 (by lia),h2,h4⟩
end Prog
namespace VS
open PySem L2
theorem b0D(w:WF m k):∀(c:Nat) (s t:Int),0<=s->s<m.length->0<=t->t<m.length->(c≠0->lv m c s≠lv m c t)->lv m (c-1) s=lv m (c-1) t->∀a∈fu m c s t,0<=a/\a<(k:Int)
 |0,s,t,_,_,_,_,_,_,a,ha=>nomatch ha
 |c+1,s,t,h0,h1,h2,h3,iU,heq,a,ha=>by
  obtain⟨⟨a0,a1⟩,f2,_⟩:=b0o w h0 h1 h2 h3 (iU (by lia));rcases aD.mp ha with e|ha
  ·rw[e];exact⟨a0,a1⟩
  ·have n1:=w.nx h0 h1 a0 a1;have n2:=w.nx h2 h3 a0 a1;refine b0D w c _ _ n1.1 n1.2 n2.1 n2.2 (λhc=>?_) ?_ a ha
   ·obtain⟨c',rfl⟩:∃c',c=c'+1:=⟨c-1,by lia⟩;exact f2.resolve_left λz=>z ((L4 w h0 h1 h2 h3).mp heq _ a0 a1).1
   ·cases c with
    |zero=>rw[z7,z7]
    |succ c'=>exact ((L4 w h0 h1 h2 h3).mp heq _ a0 a1).2
end VS
namespace Prog
open PySem L2 VS
def R7(g:List Int->D)(l:List (List Int)):List (D×D):=l.map λp=>(C5 p,g p)
def a0h(p:List Int)(l:List (List Int)):List (List Int):=if p∈l then l else l++[p]
section
variable {g:List Int->D}{l:List (List Int)}{a:List Int}
def b5r:(R7 g l).length=l.length:=ai ..
theorem a5k(a:List Int):∀l:List (List Int),K9 (R7 g l) (C5 a)=decide (a∈l)
 |[]=>rfl
 |q::l=>by
  have ih:=a5k a l;unfold K9 R7 at ih ⊢;rw[ax,List.any_cons,ih,a7B,Bool.eq_iff_iff];simp only[lA,BN,aD];exact or_congr_left eq_comm
def b5s:K4 (R7 g l) (C5 a) (g a)=R7 g (a0h a l):=by
 unfold K4 a0h;rw[a5k];by_cases c:a∈l
 ·rw[aW c,aB rfl,aB c];unfold R7;rw[bC];refine bH λx _=>?_
  show (if aF (C5 x) (C5 a)=yn then (C5 x,g a) else (C5 x,g x))=(C5 x,g x);rw[a7B];by_cases e:x=a
  ·rw[aW e,aB rfl,e]
  ·rw[bg e,aJ bU]
 ·rw[bg c,aJ c,aJ bU];unfold R7;rw[aO];rfl
def b2t:(R7 g l).map (·.1)=l.map C5:=by unfold R7;rw[bC];rfl
def b0E{Z:List D}(hv:fv Z=cz (g a))(hk:fk Z=cz (C5 a))(hd:Z.getD i .none=.dict (R7 g l))(hl:l.length<1000000):F6 i yn fk fv Z=cz (.nx (Z.set i (.dict (R7 g (a0h a l))))):=by
 rw[a8Z hv hk hd (b2r a) (by rw[b5r];exact hl),b5s]
def a4g:q∈a0h p l↔q∈l\/q=p:=by
 unfold a0h;by_cases c:p∈l
 ·rw[aB c];exact⟨.inl,λh=>h.elim id λe=>e▸c⟩
 ·rw[aJ c,ao,aq]
def b7E(h:l.Nodup):(a0h p l).Nodup:=by
 unfold a0h;by_cases c:p∈l
 ·rw[aB c];exact h
 ·rw[aJ c];rw[bu];refine⟨h,by simp,λx hx y hy e=>?_⟩;rw[aq]at hy;subst hy;exact c (e▸hx)
def a7D:(a0h p l).length<=l.length+1:=by
 unfold a0h;by_cases c:p∈l
 ·rw[aB c];lia
 ·rw[aJ c,aA];exact ay _
end
def c2t(l:List (List Int)):Option (List Int)->List (List Int)
 |none=>l
 |some p=>a0h p l
def ddP(ps:List (Option (List Int))):List (List Int):=ps.foldl c2t []
def a4h(ps:List (Option (List Int)))(o:Option (List Int)):ddP (ps++[o])=c2t (ddP ps) o:=by unfold ddP;rw[ki];rfl
def b7F(ps:List (Option (List Int))):p∈ddP ps↔cz p∈ps:=by
 induction ps using snoc_ind with
 |h0=>exact⟨λh=>(nomatch h),λh=>(nomatch h)⟩
 |h1 ps o ih=>
  rw[a4h,ao,aq];cases o with
  |none=>exact ih.trans ⟨.inl,λh=>h.elim id λe=>nomatch e⟩
  |some q=>
   show p∈a0h q (ddP ps)↔_;rw[a4g,ih];exact or_congr_right ⟨λe=>by rw[e],λe=>aH e⟩
def a6k(ps:List (Option (List Int))):(ddP ps).length<=ps.length:=by
 induction ps using snoc_ind with
 |h0=>exact ay _
 |h1 ps o ih=>
  rw[a4h,aA];cases o with
  |none=>exact nZ ih
  |some q=>exact cF a7D (Nat.succ_le_succ ih)
def a7E(l:List (List Int)):(N5 l).map r8=a5R (l.map r8):=by
 unfold N5;rw[bC];have h:∀x∈a5R (l.map r8),(r8 ∘ mj) x=x:=λx hx=>by
  obtain⟨p,_,rfl⟩:=aI.mp ((Z9 _).mem_iff.mp hx);rfl
 exact (bH h).trans (List.map_id'' (λ_=>rfl) _)
def w8(l:List (List Int)):(N5 l).Perm l:=by
 have h:=(Z9 (l.map r8)).map mj;rw[bC]at h;have e:l.map (mj ∘ r8)=l:=List.map_id'' (f:=mj ∘ r8) (λ_=>rfl) l;rw[e]at h;exact h
def a7F(l:List (List Int)):(N5 l).Pairwise λp q=>leL (r8 p) (r8 q):=by
 have h:=X6 (l.map r8);rw[<-a7E,oe]at h;exact h
def a7G{l:List (List Int)}(h:l.Nodup):(N5 l).Pairwise λp q=>q9 (r8 p) (r8 q)=yn:=by
 have h1:=a7F l;have h2:(N5 l).Nodup:=(w8 l).nodup_iff.mpr h;refine (h1.and h2).imp λ{p q} ⟨a,b⟩=>?_
 cases c:q9 (r8 p) (r8 q) with
 |true=>rfl
 |false=>exact absurd (dE mj (N4 _ _ c a)) b
def a7H{Z:List D}(h:a Z=cz (.dict (R7 g l)))(hl:l.length<65536)(hm:∀p∈l,m [C5 p]=cz (kdP p)):a0F m a Z=cz (.list ((N5 l).map C5)):=by
 unfold a0F;rw[h,fq];show (cz ((R7 g l).map (·.1))).bind _=_;rw[fq,b2t,a4f,fq,aB (b6O (l:=yp) hl hm)];rfl
def b8f{fa fb:EvE}{Z:List D}{d:D}{k:Bool}(h:fa Z=cz d)(hk:tr d=cz k):b6Q fa fb Z=if k then cz d else fb Z:=by
 unfold b6Q;rw[h,fq,hk,fq]
def a7I(a:List Int):imm (C5 a)=yn:=by unfold C5;simp only[imm];exact u9 a
def b0F(p:List Int):a0G [C5 p]=cz (kdP p):=by
 unfold a0G C5;rw[A8 (by simp[VS.argsOk,imm,u9])];unfold b4y;walk_at "ev";rfl
def mkL(l:List (List Int)):List (List Int):=if l=[] then [[]] else N5 l
def a4i(ps:List (Option (List Int)))(hl:ps.length<64):B9 [.list (ps.map a2E)]=cz (.list ((mkL (ddP ps)).map iD)):=by
 have zA:=a6k ps;unfold B9;rw[A8 (by simp[VS.argsOk])];unfold a0o;walk_at "ev";refine E7 (λZ=>∃x,Z=[.list (ps.map a2E),.dict (R7 (λ_=>cV yn) (ddP ps)),x]) ?_ ?_
 ·obtain⟨Z',h1,x,rfl⟩:=t5 (enc:=a2E) (set:=r9 2) (xs:=ps) (g:=(sIf (tB (e2 (a7W yn) (a6 2) (eC .none))) (F6 1 yn (W8 (a6 2)) (eC (.bool yn))) z9)) (Z:=[.list (ps.map a2E),.dict [],.none])
   (λpre Z=>∃x,Z=[.list (ps.map a2E),.dict (R7 (λ_=>cV yn) (ddP pre)),x]) ⟨_,rfl⟩ (by
    rintro pre o post e Z ⟨x,rfl⟩;have hlen:pre.length<64:=by have:=dE d_ e;simp at this;lia
    have hd2:=a6k pre;refine⟨_,[.list (ps.map a2E),.dict (R7 (λ_=>cV yn) (ddP (pre++[o]))),a2E o],rfl,?_,_,rfl⟩;rw[a4h];cases o with
    |none=>
     show (sIf (tB (e2 (a7W yn) (a6 2) (eC .none))) (F6 1 yn (W8 (a6 2)) (eC (.bool yn))) z9) [.list (ps.map a2E),.dict (R7 (λ_=>cV yn) (ddP pre)),.none]=_;walk_at "ev";rfl
    |some p=>
     show (sIf (tB (e2 (a7W yn) (a6 2) (eC .none))) (F6 1 yn (W8 (a6 2)) (eC (.bool yn))) z9) [.list (ps.map a2E),.dict (R7 (λ_=>cV yn) (ddP pre)),.list (p.map .int)]=_;walk_at "ev";rw[b0E (g:=(λ_=>cV yn)) (a:=p) (l:=ddP pre) rfl (a6e (ds:=p.map .int) rfl (u9 p)) rfl (by lia)];rfl)
  exact⟨_,h1,_,rfl⟩
 ·rintro Z ⟨x,rfl⟩;have uE:(N5 (ddP ps)).length<=1000000:=by rw[(w8 _).length_eq];lia
  have hc:(n9 (iI (iL (a0F a0G (a6 1)))) [] pt1 tT (eI (D9 (a6 0)))) [.list (ps.map a2E),.dict (R7 (λ_=>cV yn) (ddP ps)),x]=cz (.list ((N5 (ddP ps)).map iD)):=by
   refine L5 (enc:=C5) (xs:=N5 (ddP ps)) iD ?_ uE λp _=>⟨[C5 p],rfl,?_⟩
   ·rw[a1f (ds:=(N5 (ddP ps)).map C5) ?_ (m6 _ a7I _)];rw[b2a,a7H (g:=(λ_=>cV yn)) (l:=ddP ps) rfl (by lia) λp _=>b0F p];rfl
   ·have hi:=u9 p;show eI (D9 (a6 0)) [.tuple (p.map .int)]=_;walk_at "ev"
  walk_at "ev";unfold mkL;by_cases c:ddP ps=[]
  ·rw[aB c];rw[c]at hc;rw[c,b8f (k:=yp) hc rfl];rfl
  ·rw[aJ c];cases h:N5 (ddP ps) with
   |nil=>
    have:=(w8 (ddP ps)).symm;rw[h]at this;exact absurd this.eq_nil c
   |cons a l=>
    rw[h]at hc;rw[b8f (k:=yn) hc rfl];rfl
def a2A(m:i8)(D:Nat)(s t:Int):Option (List Int):=if mny m D s t=D+1 then xn else cz (fu m (mny m D s t) s t)
def b7G(m:i8)(D:Nat)(s t:Int):a2E (a2A m D s t)=V7 m D s t:=by
 unfold a2A V7;by_cases c:mny m D s t=D+1
 ·rw[aB c,aB c];rfl
 ·rw[aJ c,aJ c];rfl
def a4A(m:i8)(D:Nat)(s:Int):List (List Int):=ddP ((az m.length).map λ(t:Nat)=>a2A m D s t)
def mks(m:i8)(D:Nat)(s:Int):List (List Int):=mkL (a4A m D s)
def b5t(w:WF m k):∃D:Nat,a2M [.list (m.map rwD)]=cz (.list ((az m.length).map λ(s:Nat)=>b_ ((mks m D s).map iD)))/\D+1<=m.length/\
  ∀s t:Int,0<=s->s<m.length->0<=t->t<m.length->lv m D s=lv m D t->lv m (D+1) s=lv m (D+1) t:=by
 have hn:=w.le;obtain⟨D,ha,hD,qo⟩:=b5q w;refine⟨D,?_,hD,qo⟩;unfold a2M;rw[A8 (by simp[VS.argsOk])];unfold b0i;walk_at "ev";rw[L5 (enc:=λ(s:Nat)=>b_ ((az m.length).map λ(t:Nat)=>V7 m D s t)) (xs:=az m.length) (λ(s:Nat)=>b_ ((mks m D s).map iD)) ?_ (by rw[bF];lia) ?_]
 ·rfl
 ·walk_at "ev";rw[ha];rfl
 ·intro s _;refine⟨[_],rfl,?_⟩;show eCl B9 (a7 (a6 0) c6) [b_ ((az m.length).map λ(t:Nat)=>V7 m D s t)]=_;have e:((az m.length).map λ(t:Nat)=>V7 m D s t)=(((az m.length).map λ(t:Nat)=>a2A m D s t).map a2E):=by
   rw[bC];exact bH λt _=>(b7G m D s t).symm
  walk_at "ev";rw[e,a4i _ (by rw[ai,bF];lia)];rfl
section
variable {m:i8}{k D:Nat}(w:WF m k)(qo:∀s t:Int,0<=s->s<m.length->0<=t->t<m.length->lv m D s=lv m D t->lv m (D+1) s=lv m (D+1) t)
include w
theorem a9i{s t:Int}{p:List Int}(s0:0<=s)(s1:s<m.length)(t0:0<=t)(t1:t<m.length)(h:a2A m D s t=cz p):∃c,p=fu m c s t/\1<=c/\c<=D/\lv m c s≠lv m c t/\lv m (c-1) s=lv m (c-1) t:=by
 obtain⟨c1,c2,c3,c4⟩:=a7C w D s0 s1 t0 t1;unfold a2A at h;by_cases c:mny m D s t=D+1
 ·rw[aB c]at h;cases h
 ·rw[aJ c]at h;cases h
  exact⟨mny m D s t,rfl,c1,by lia,c4 _ (ay _) (by lia),c3 _ (by lia)⟩
theorem b5u{s:Int}{p:List Int}:p∈a4A m D s↔∃t:Nat,t<m.length/\a2A m D s t=cz p:=by
 unfold a4A;rw[b7F,aI];exact⟨λ⟨t,ht,e⟩=>⟨t,bT.mp ht,e⟩,λ⟨t,ht,e⟩=>⟨t,bT.mpr ht,e⟩⟩
theorem b0G{s:Int}(s0:0<=s)(s1:s<m.length){p:List Int}(h:p∈a4A m D s):(∀a∈p,0<=a/\a<(k:Int))/\1<=p.length/\p.length<=D:=by
 obtain⟨t,ht,e⟩:=(b5u w).mp h;obtain⟨c,rfl,c1,c2,c3,c4⟩:=a9i w s0 s1 (by lia) (by lia) e;rw[b4J];exact⟨b0D w c s t s0 s1 (by lia) (by lia) (λ_=>c3) c4,c1,c2⟩
theorem b7H(h:p∈mks m D s):p∈a4A m D s\/p=[]/\mks m D s=[[]]:=by
 unfold mks mkL at h ⊢;by_cases c:a4A m D s=[]
 ·rw[aB c]at h ⊢;exact .inr ⟨aq.mp h,rfl⟩
 ·rw[aJ c]at h ⊢;exact .inl ((w8 _).mem_iff.mp h)
theorem c0y{s:Int}(s0:0<=s)(s1:s<m.length){p:List Int}(h:p∈mks m D s):(∀a∈p,0<=a/\a<(k:Int))/\p.length<=D:=by
 rcases b7H w h with z|⟨rfl,_⟩
 ·exact⟨(b0G w s0 s1 z).1,(b0G w s0 s1 z).2.2⟩
 ·exact⟨λa ha=>(nomatch ha),cG _⟩
theorem c0z(s:Int):mks m D s≠[]:=by
 unfold mks mkL;by_cases c:a4A m D s=[]
 ·rw[aB c];exact List.cons_ne_nil _ _
 ·rw[aJ c];intro e;have:=(w8 (a4A m D s)).symm;rw[e]at this;exact c this.eq_nil
theorem b7I(s:Int):(mks m D s).length<=31:=by
 have hn:=w.le;have h:(a4A m D s).length<=m.length:=by
  have:=a6k ((az m.length).map λ(t:Nat)=>a2A m D s t);rw[ai,bF]at this;exact this
 unfold mks mkL;by_cases c:a4A m D s=[]
 ·rw[aB c];decide
 ·rw[aJ c,(w8 _).length_eq];lia
end
end Prog
namespace VS
open PySem L2
def lng(k:Nat)(L:List (List Int)):List (List Int):=L.flatMap λr=>(az k).map λ(x:Nat)=>r++[(x:Int)]
def lvR(k:Nat):Nat->List (List Int)
 |0=>[[]]
 |n+1=>lng k (lvR k n)
def G8(k:Nat):Nat->List (List Int)
 |0=>[[]]
 |n+1=>G8 k n++lvR k (n+1)
theorem a6l(k:Nat):∀L:List (List Int),(lng k L).length=L.length*k
 |[]=>by simp[lng]
 |x::L=>by
  have e:lng k (x::L)=((az k).map λ(y:Nat)=>x++[(y:Int)])++lng k L:=rfl;rw[e,aA,ai,bF,a6l k L,aS,Nat.add_mul,Nat.one_mul,jH]
theorem a6m(k:Nat):∀n,(lvR k n).length=k^n
 |0=>rfl
 |n+1=>by
  show (lng k (lvR k n)).length=_;rw[a6l,a6m k n,Nat.pow_succ]
theorem b0H(k:Nat)(hk:1<=k):∀n,(G8 k n).length<=(n+1)*k^n
 |0=>by simp[G8]
 |n+1=>by
  show (G8 k n++lvR k (n+1)).length<=_;rw[aA,a6m];have h1:=b0H k hk n;have h2:k^n<=k^(n+1):=wZ hk (w_ n);have h3:(n+1)*k^n<=(n+1)*k^(n+1):=Nat.mul_le_mul_left _ h2;rw[Nat.add_mul (n+1) 1,Nat.one_mul];lia
def b7J(h:∀r∈L,r.length=n):∀r∈lng k L,r.length=n+1:=by
 intro r hr;obtain⟨q,hq,hr⟩:=cQ.mp hr;obtain⟨x,_,rfl⟩:=aI.mp hr;rw[aA,h q hq];rfl
theorem a9j(k:Nat):∀n,∀r∈lvR k n,r.length=n
 |0,r,h=>by rw[aq.mp h];rfl
 |n+1,r,h=>b7J (a9j k n) r h
theorem b0I(k:Nat):∀n,∀r∈G8 k n,r.length<=n
 |0,r,h=>by rw[aq.mp h];exact ay _
 |n+1,r,h=>by
  rcases ao.mp h with z|z
  ·exact nZ (b0I k n r z)
  ·rw[a9j k (n+1) r z];exact ay _
def lD(r:List Int):D:=.list (r.map .int)
end VS
namespace Prog
open PySem L2 VS
def b2u{k n:Nat}{L:List (List Int)}(hk:k<=5)(hl:L.length<=10000)(hm:∀r∈L,r.length=n)(hn:n<=100):t7 [.list (L.map lD),.int k]=cz (.list ((lng k L).map lD)):=by
 unfold t7;rw[A8 (by simp[VS.argsOk,imm])];unfold Q8;walk_at "ev";refine E7 (λZ=>∃x,Z=[.list (L.map lD),.int k,.list ((lng k L).map lD),x]) ?_ ?_
 ·obtain⟨Z',g1,x,rfl⟩:=t5 (enc:=lD) (set:=r9 3) (xs:=L) (g:=(a6W 2 (n9 (iR (a6 1)) [3] pt1 tT (eI (T3 (a6 1) (x5 (a7 (a6 0) c6))))))) (Z:=[.list (L.map lD),.int k,.list [],.none])
   (λpre Z=>∃x,Z=[.list (L.map lD),.int k,.list ((lng k pre).map lD),x]) ⟨_,rfl⟩ (by
    rintro pre r post e Z ⟨x,rfl⟩;have hr:=hm r (by rw[e];simp);have gT:pre.length<L.length:=by rw[e];simp
    have hc:(n9 (iR (a6 1)) [3] pt1 tT (eI (T3 (a6 1) (x5 (a7 (a6 0) c6))))) [.list (L.map lD),.int k,.list ((lng k pre).map lD),lD r]=cz (.list (((az k).map λ(x:Nat)=>r++[(x:Int)]).map lD)):=by
     rw[a5U (n:=k) (λ(x:Nat)=>lD (r++[(x:Int)])) (by walk_at "ev") (by lia) (by lia)]
     ·rw[bK,bC];rfl
     ·intro x hx;show eI (T3 (a6 1) (x5 (a7 (a6 0) c6))) [.int x,.list (r.map .int)]=_;rw[a5a,b0b];walk_at "ev";rw[show b2b (cz (.list (r.map .int))) (cz (.list [.int (x:Int)]))=_ from a3K (xs:=r) (ys:=[(x:Int)]) (by simp;lia)];exact a2K
    refine⟨_,[.list (L.map lD),.int k,.list ((lng k (pre++[r])).map lD),lD r],rfl,?_,_,rfl⟩;show a6W 2 _ [.list (L.map lD),.int k,.list ((lng k pre).map lD),lD r]=_;unfold a6W;rw[hc,fq];show (if ((lng k pre).map lD).length+(((az k).map λ(x:Nat)=>r++[(x:Int)]).map lD).length<=1000000 then cz (Out.nx [.list (L.map lD),.int k,.list ((lng k pre).map lD++(((az k).map λ(x:Nat)=>r++[(x:Int)]).map lD)),lD r]) else xn)=_;have h1:pre.length*k<=10000*5:=qO (by lia) hk;rw[aB (by rw[ai,a6l,ai,ai,bF];lia)];have e2:lng k (pre++[r])=lng k pre++((az k).map λ(x:Nat)=>r++[(x:Int)]):=by
     unfold lng;rw[eD,List.flatMap_singleton]
    rw[e2,aO])
  exact⟨_,g1,_,rfl⟩
 ·rintro Z ⟨x,rfl⟩;walk_at "ev"
def a9k{k n:Nat}(rN:1<=k)(hk:k<=5)(hn:n<=31)(hp:k^n<=3125):a0f [.int k,.int n]=cz (.list ((G8 k n).map lD)):=by
 unfold a0f;rw[A8 (by simp[VS.argsOk,imm])];unfold a5f;walk_at "ev";rw[b1k (n:=n) (by walk_at "ev") (by lia) (by lia),bK];walk_at "ev";refine E7 (λZ=>∃x y,Z=[.int k,.int n,.list ((G8 k n).map lD),x,y]) ?_ ?_
 ·obtain⟨Z',g1,x,rfl⟩:=U1 (n:=n) (set:=r9 4) (g:=(f7 (j5 3 (eCl t7 (a7 (a6 3) (a7 (a6 0) c6)))) (a2f 2 3))) (Z:=[.int k,.int n,.list [.list []],.list [.list []],.none])
   (λj Z=>∃x,Z=[.int k,.int n,.list ((G8 k j).map lD),.list ((lvR k j).map lD),x]) ⟨_,rfl⟩ (by
    rintro j hj Z ⟨x,rfl⟩;have yV:∀i,i<=n->k^i<=3125:=λi hi=>cF (wZ rN hi) hp
    refine⟨_,[.int k,.int n,.list ((G8 k (j+1)).map lD),.list ((lvR k (j+1)).map lD),.int j],rfl,?_,_,rfl⟩;show (f7 (j5 3 (eCl t7 (a7 (a6 3) (a7 (a6 0) c6)))) (a2f 2 3)) [.int k,.int n,.list ((G8 k j).map lD),.list ((lvR k j).map lD),.int j]=_;walk_at "ev";rw[b2u hk (by rw[a6m];have:=yV j (by lia);lia) (a9j k j) (by lia)];walk_at "ev";show (if ((G8 k j).map lD).length+((lng k (lvR k j)).map lD).length<=1000000 then cz (Out.nx [.int k,.int n,.list ((G8 k j).map lD++(lng k (lvR k j)).map lD),.list ((lng k (lvR k j)).map lD),.int j]) else xn)=_;have h1:=b0H k rN j;have h2:(j+1)*k^j<=32*3125:=qO (by lia) (yV j (by lia));have h3:(lng k (lvR k j)).length=k^(j+1):=a6m k (j+1);have h4:=yV (j+1) (by lia);rw[aB (by rw[ai,ai,h3];lia),<-aO];rfl)
  exact⟨_,g1,_,_,rfl⟩
 ·rintro Z ⟨x,y,rfl⟩;walk_at "ev"
def rF(a:Int):Nat->Int
 |0=>1
 |n+1=>rF a n*a+1
def szF(s a e:Int):Int:=s*rF a (e+1).toNat*(if 1<s then s-1 else 1)
def b7K(s a e:Int)(s0:1<=s)(s1:s<=30)(a0:1<=a)(a1:a<=5)(e0:0<=e)(e1:e<=30):O4 [.int s,.int a,.int e]=cz (.int (szF s a e)):=by
 unfold O4;rw[A8 (by simp[VS.argsOk,imm])];unfold a2t;walk_at "evm";rw[b1k (n:=e+1) (by walk_at "evm") (by lia) (by lia)];walk_at "evm";refine E7 (λZ=>∃x,Z=[.int s,.int a,.int e,.int (rF a (e+1).toNat),x]) ?_ ?_
 ·exact U1 (n:=(e+1).toNat) (λk Z=>∃x,Z=[.int s,.int a,.int e,.int (rF a k),x]) ⟨_,rfl⟩ λk hk Z ⟨x,hx⟩=>by
   subst hx;refine⟨_,_,rfl,?_,.int k,rfl⟩;walk_at "evm";rfl
 ·rintro Z ⟨x,rfl⟩;walk_at "evm";show a1x (retS (l2 a0Q (cz (.int (s*rF a (e+1).toNat))) (cz (.int (if 1>s-1 then 1 else s-1)))))=_;have e:(if (1:Int)>s-1 then 1 else s-1)=if 1<s then s-1 else 1:=by
   by_cases c:(1:Int)>s-1
   ·rw[aB c];by_cases d:1<s
    ·rw[aB d];lia
    ·rw[aJ d]
   ·rw[aJ c,aB (by lia)]
  rw[e];have hb:((if 1<s then s-1 else 1:Int)).natAbs<2^64:=by
   by_cases d:1<s
   ·rw[aB d];lia
   ·rw[aJ d];decide
  rw[b9d,a5G hb];rfl
def a5l{m:i8}{k:Nat}(w:WF m k){p:List Int}{s:Int}(h0:0<=s)(h1:s<m.length)(hp:∀x∈p,0<=x/\x<(k:Int))(hl:p.length<=13000) :
  E9 [.list (m.map rwD),.int s,.list (p.map .int)]=cz (.tuple [.list ((g7 m s p).1.map .int),.int (g7 m s p).2]):=by
 unfold E9;rw[A8 (by simp[VS.argsOk,imm])];unfold a7v;walk_at "ev";rw[a1f (ds:=p.map .int) (by walk_at "ev") (u9 p)];walk_at "ev";refine E7 (λZ=>∃x y:D,Z=[.list (m.map rwD),.int (g7 m s p).2,.list (p.map .int),.list ((g7 m s p).1.map .int),x,y]) ?_ ?_
 ·obtain⟨Z',h2,x,y,rfl⟩:=t5 (enc:=aK) (set:=r9 4) (xs:=p) (Z:=[.list (m.map rwD),.int s,.list (p.map .int),.list [],.none,.none])
   (g:=(f7 (j5 5 (e2 o8 (e2 dIx (a6 0) (a6 1)) (a6 4))) (f7 (J6 3 (.l .i) p6 (e2 o8 (a6 5) (eC (.int 0)))) (j5 1 (e2 o8 (a6 5) (eC (.int 1)))))))
   (λpre Z=>∃x y:D,Z=[.list (m.map rwD),.int (g7 m s pre).2,.list (p.map .int),.list ((g7 m s pre).1.map .int),x,y]) ⟨_,_,rfl⟩ (by
    rintro pre a post e Z ⟨x,y,rfl⟩;have nL:∀b∈pre,0<=b/\b<(k:Int):=λb hb=>hp b (by rw[e];exact aj _ hb)
    have ha:=hp a (by rw[e];simp);have hs:=a0d w pre s h0 h1 nL;have hr:=w.row hs.1 hs.2;have hlen:pre.length<13000:=by have:=dE d_ e;simp at this;lia
    refine⟨_,[.list (m.map rwD),.int (g7 m s (pre++[a])).2,.list (p.map .int),.list ((g7 m s (pre++[a])).1.map .int),.int a,stD (stp m (g7 m s pre).2 a)],rfl,?_,_,_,rfl⟩;walk_at "ev";rw[a1J hs.1 hs.2];walk_at "ev";rw[a8O ha.1 (by lia)];walk_at "ev";rw[a1z (by rw[ai,a0c];lia)];walk_at "ev";rw[U2,aO];rfl)
  exact⟨_,h2,_,_,rfl⟩
 ·rintro Z ⟨x,y,rfl⟩;walk_at "ev"
def b2v(C:Can L k)(hA:AllMet L k W)(j:Nat):j<L.length->(j:Int)∈W.map (·.1):=by
 induction j using Nat.strongRecOn with
 |_ j ih=>
  intro hj;have h1:=C.lead j hj;have hc:=b2m hj;have hp:=C.pre (Zq:=(az j).flatMap (nxs L k)) (Y:=(j::(az (L.length-j-1)).map (λi=>j+1+i)).flatMap (nxs L k)) (by rw[hc,eD]);have hm:(j:Int)∈dkk [0] ((az j).flatMap (nxs L k)):=by rw[hp];exact b7A.mpr ⟨by lia,by lia⟩
  rcases (L6 _ _).mp hm with z|z
  ·have:(j:Int)=0:=by simpa using z
   rw[this];exact aI.mpr ⟨_,hA.zero,rfl⟩
  ·obtain⟨i,hi,h2⟩:=cQ.mp z;obtain⟨a,ha,h3⟩:=aI.mp h2;have gO:=bT.mp hi;obtain⟨⟨t,p⟩,qV,jL⟩:=aI.mp (ih i gO (by lia));have jL:t=(i:Int):=jL;subst jL;obtain⟨q,hq,_⟩:=hA.next qV (bT.mp ha);exact aI.mpr ⟨_,hq,h3⟩
theorem b5v(k:Nat):∀n,∀r∈lvR k n,∀a∈r,0<=a/\a<(k:Int)
 |0,r,hr,a,ha=>by
  have:r=[]:=by simpa[lvR]using hr
  rw[this]at ha;cases ha
 |n+1,r,hr,a,ha=>by
  have uF:r∈lng k (lvR k n):=hr;unfold lng at uF;obtain⟨q,hq,h2⟩:=cQ.mp uF;obtain⟨x,hx,rfl⟩:=aI.mp h2;have:=bT.mp hx;rcases ao.mp ha with z|z
  ·exact b5v k n q hq a z
  ·rw[aq.mp z];lia
theorem b5w(k:Nat):∀n,∀r∈G8 k n,∀a∈r,0<=a/\a<(k:Int)
 |0,r,hr=>b5v k 0 r hr
 |n+1,r,hr=>by
  have uF:r∈G8 k n++lvR k (n+1):=hr;rcases ao.mp uF with z|z
  ·exact b5w k n r z
  ·exact b5v k (n+1) r z
def GoodP(k:Nat)(l:List (List Int)):Prop:=l.Nodup/\∀p∈l,(∀a∈p,0<=a/\a<(k:Int))/\p.length<=100
def b5x:1<=(a0h p l).length:=by
 have:p∈a0h p l:=a4g.mpr (.inr rfl);exact List.length_pos_of_mem this
theorem b5y(k:Nat):∀n,G8 k n≠[]
 |0,h=>by cases h
 |n+1,h=>b5y k n (List.append_eq_nil_iff.mp h).1
def GoodP.ins{k:Nat}{l:List (List Int)}(h:GoodP k l){p:List Int}(h1:∀a∈p,0<=a/\a<(k:Int))(h2:p.length<=100):GoodP k (a0h p l):=⟨b7E h.1,λq hq=>by
 rcases a4g.mp hq with z|z
 ·exact h.2 q z
 ·rw[z];exact⟨h1,h2⟩⟩
abbrev pbT(L:i8)(e:Nat)(A B:D)(t:List D):List D:=.list (L.map rwD)::.int (e:Nat)::A::B::t
abbrev eT(l:List (List Int)):VS.D:=.dict (R7 (λ_=>cV yn) l)
noncomputable def q2:EvS:=(F6 4 yn (W8 (eI (T3 (eI (T3 (a6 6) (a6 7))) (a6 8)))) (eC (.bool yn)))
noncomputable def q1:EvS:=A7 (iL (e2 dIx (a6 2) (e2 dIx (eCl E9 (a7 (a6 0) (a7 (a6 5) (a7 (a6 7) c6)))) (eC (.int 1))))) (r9 8) q2
noncomputable def q0:EvS:=A7 (iL (a6 3)) (r9 7) q1
def b2w(C:Can L k)(he:e<=30)(xB:k^(e+1)<=3125)(hR:(G8 k (e+1)).length<=64):∃ps:List (List Int),C0 [.list (L.map rwD),.int (e:Nat)]=cz (.list (ps.map iD))/\GoodP k ps/\ps.length<65536/\1<=ps.length/\ps.Pairwise λp q=>q9 (r8 p) (r8 q)=yn:=by
 have w:=C.wf;have hle:=w.le;have mv:=w.pos;obtain⟨D,zc,hD,qo⟩:=b5t w;obtain⟨W,hA,hw⟩:=b7D w;have xt:=hA.len;have e0:(rowAt L 0).length=k:=w.row (by lia) (by lia);unfold C0;rw[A8 (by simp[VS.argsOk,imm])];unfold a0q
 try walk_at "ev"
 rw[zc]
 try walk_at "ev"
 have wz:G6 [.list (L.map rwD)]=cz (.int (k:Nat)):=by
  unfold G6;rw[A8 (by simp[VS.argsOk])];unfold a1N
  try walk_at "ev"
  rw[a1J (by lia) (by lia)]
  try walk_at "ev"
  rw[e0]
  try rfl
 rw[wz]
 try walk_at "ev"
 rw[show ((e:Nat):Int)+1=((e+1:Nat):Int) by lia,a9k w.k1 w.k5 (by lia) xB]
 try walk_at "ev"
 have CS:eCl a0H (a7 (a6 0) c6) [.list (L.map rwD),.int (e:Nat),.list ((az L.length).map λ(s:Nat)=>b_ ((mks L D s).map iD)),.list ((G8 k (e+1)).map lD),.dict [],.none,.none,.none,.none]=cz (.list (b5n W L.length)):=by
  try walk_at "ev"
  exact hw
 rw[c0s CS]
 try walk_at "ev"
 unfold b5n;rw[a1n];have Be:∀t:Int,0<=t->t<L.length->dIx (.list ((az L.length).map λ(s:Nat)=>b_ ((mks L D s).map iD))) (.int t)=cz (.list ((mks L D t).map iD)):=λt t0 t1=>by
  show L2.atI ((az L.length).map λ(s:Nat)=>b_ ((mks L D s).map iD)) t=_;rw[X1 t0 (by rw[ai,bF];exact t1),dF,ny,show ((t.toNat:Nat):Int)=t by lia]
 have hB:lL (cz (.list ((G8 k (e+1)).map lD)))=cz ((G8 k (e+1)).map lD):=rfl;generalize b_ ((az L.length).map λ(s:Nat)=>b_ ((mks L D s).map iD))=A at Be ⊢;generalize b_ ((G8 k (e+1)).map lD)=B at hB ⊢;refine X8 (R:=λo=>∃ps:List (List Int),o=cz (.list (ps.map iD))/\GoodP k ps/\ps.length<65536/\1<=ps.length/\ps.Pairwise λp q=>q9 (r8 p) (r8 q)=yn) (λZ=>∃(l:List (List Int)) (x y z u:VS.D),GoodP k l/\l.length<65536/\1<=l.length/\Z=(pbT L e A B [eT l,x,y,z,u])) ?_ ?_
 ·have inner:∀(s:Nat),s<L.length->∀(p r:List Int),(∀a∈p,0<=a/\a<(k:Int))->p.length<=30->r∈G8 k (e+1)->∀(l:List (List Int)),GoodP k l->l.length<70000->∀x:VS.D,∃l' x',q1 (pbT L e A B [eT l,.int s,iD p,lD r,x])=cz (.nx (pbT L e A B [eT l',.int s,iD p,lD r,x']))/\GoodP k l'/\l'.length<=l.length+31/\1<=l'.length:=by
   intro s hs p r hp gT hr l g hl x;have yQ:=b5w k _ r hr;have yR:=b0I k _ r hr;have qC:=a0d w r s (by lia) (by lia) yQ;generalize ht:(g7 L s r).2=t at qC;have yG:e2 dIx (a6 2) (e2 dIx (eCl E9 (a7 (a6 0) (a7 (a6 5) (a7 (a6 7) c6)))) (eC (.int 1))) (pbT L e A B [eT l,.int s,iD p,lD r,x])=cz (.list ((mks L D t).map iD)):=by
    have h2:E9 [.list (L.map rwD),.int s,lD r]=cz (.tuple [.list ((g7 L s r).1.map .int),.int (g7 L s r).2]):=a5l w (by lia) (by lia) yQ (by lia)
    try walk_at "ev"
    rw[h2]
    try walk_at "ev"
    rw[ht];exact Be t qC.1 qC.2
   unfold q1;rw[b3m,b2a,yG];show ∃l' x',V8 (r9 8) q2 ((mks L D t).map iD) _=_/\_;have FN:=b7I (D:=D) w t;obtain⟨Z',g1,l',x',q1,q2,q3,rfl⟩:=t5 (enc:=iD) (set:=r9 8) (xs:=mks L D t) (g:=q2) (Z:=(pbT L e A B [eT l,.int s,iD p,lD r,x]))
    (λpre Z=>∃(l':List (List Int)) (x':VS.D),GoodP k l'/\l'.length<=l.length+pre.length/\(pre=[]\/1<=l'.length)/\Z=(pbT L e A B [eT l',.int s,iD p,lD r,x'])) ⟨l,x,g,ay _,.inl rfl,rfl⟩ (by
     rintro pre q post e1 Z ⟨l',x',q1,q2,_,rfl⟩;have hq:q∈mks L D t:=by rw[e1];simp
     obtain⟨Ba,FK⟩:=c0y w qC.1 qC.2 hq;have vF:pre.length<(mks L D t).length:=by rw[e1];simp
     have zG:eI (T3 (eI (T3 (a6 6) (a6 7))) (a6 8)) (pbT L e A B [eT l',.int s,iD p,lD r,iD q])=cz (.list ((p++r++q).map .int)):=by
      rw[a5a,b0b,a5a,b0b];show lIs (b2b (lIs (b2b (cz (.list (p.map .int))) (cz (.list (r.map .int))))) (cz (.list (q.map .int))))=_;rw[a3K (by lia),a2K,a3K (by rw[aA];lia),a2K]
     have mh:=a7D (p:=p++r++q) (l:=l');refine⟨_,(pbT L e A B [eT (a0h (p++r++q) l'),.int s,iD p,lD r,iD q]),rfl,?_,a0h (p++r++q) l',iD q,q1.ins (λa ha=>?_) (by rw[aA,aA];lia),by rw[aA,cx];lia,.inr b5x,rfl⟩
     ·show F6 4 yn _ _ (pbT L e A B [eT l',.int s,iD p,lD r,iD q])=_;rw[b0E (g:=(λ_=>cV yn)) (a:=p++r++q) (l:=l') rfl (a6e (ds:=(p++r++q).map .int) zG (u9 _)) rfl (by lia)];rfl
     ·rcases ao.mp ha with z|z
      ·rcases ao.mp z with z|z
       ·exact hp a z
       ·exact yQ a z
      ·exact Ba a z)
   exact⟨l',x',g1,q1,by lia,q3.resolve_left (c0z w t)⟩
  have middle:∀(s:Nat),s<L.length->∀(p:List Int),(∀a∈p,0<=a/\a<(k:Int))->p.length<=30->∀(l:List (List Int)),GoodP k l->l.length<60000->∀y x:VS.D,∃l' y' x',q0 (pbT L e A B [eT l,.int s,iD p,y,x])=cz (.nx (pbT L e A B [eT l',.int s,iD p,y',x']))/\GoodP k l'/\l'.length<=l.length+2000/\1<=l'.length:=by
   intro s hs p hp gT l g hl y x;unfold q0;rw[b3m,b2a,show a6 3 (pbT L e A B [eT l,.int s,iD p,y,x])=cz B from rfl,hB];show ∃l' y' x',V8 (r9 7) q1 ((G8 k (e+1)).map lD) _=_/\_;obtain⟨Z',g1,l',y',x',q1,q2,q3,rfl⟩:=t5 (enc:=lD) (set:=r9 7) (xs:=G8 k (e+1)) (g:=q1) (Z:=(pbT L e A B [eT l,.int s,iD p,y,x]))
    (λpre Z=>∃(l':List (List Int)) (y' x':VS.D),GoodP k l'/\l'.length<=l.length+31*pre.length/\(pre=[]\/1<=l'.length)/\Z=(pbT L e A B [eT l',.int s,iD p,y',x'])) ⟨l,y,x,g,ay _,.inl rfl,rfl⟩ (by
     rintro pre r post e1 Z ⟨l',y',x',q1,q2,_,rfl⟩;have hr:r∈G8 k (e+1):=by rw[e1];simp
     have vF:pre.length<(G8 k (e+1)).length:=by rw[e1];simp
     obtain⟨l2,x2,i1,i2,i3,i4⟩:=inner s hs p r hp gT hr l' q1 (by lia) x';exact⟨_,_,rfl,i1,l2,lD r,x2,i2,by rw[aA,cx];lia,.inr i4,rfl⟩)
   exact⟨l',y',x',g1,q1,by lia,q3.resolve_left (b5y k _)⟩
  obtain⟨Z',g1,l',x',y',z',u',q1,q2,q3,rfl⟩:=t5 (enc:=λ(a:Nat)=>cI [.int (a:Int),wyD W a]) (set:=a3h 5 6) (xs:=az L.length) (g:=q0) (Z:=(pbT L e A B [.dict [],.none,.none,.none,.none]))
   (λpre Z=>∃(l':List (List Int)) (x y z u:VS.D),GoodP k l'/\l'.length<=2000*pre.length/\(pre=[]\/1<=l'.length)/\Z=(pbT L e A B [eT l',x,y,z,u])) ⟨[],.none,.none,.none,.none,⟨bD,λp hp=>(nomatch hp)⟩,cG _,.inl rfl,rfl⟩ (by
    rintro pre s post e1 Z ⟨l',x,y,z,u,q1,q2,_,rfl⟩;have hs:s<L.length:=bT.mp (by rw[e1];simp);have vF:pre.length<L.length:=by have:=dE d_ e1;simp at this;lia
    obtain⟨⟨t,p⟩,qV,jL⟩:=aI.mp (b2v C hA s hs);have jL:t=(s:Int):=jL;subst jL;have DF:=hA.leads p.length (ay _) qV;have tI:=hA.ql _ qV;obtain⟨l2,y2,x2,i1,i2,i3,i4⟩:=middle s hs p DF.2 (by have:p.length<=W.length:=tI;lia) l' q1 (by lia) z u;refine⟨(pbT L e A B [eT l',.int s,iD p,z,u]),_,?_,i1,l2,_,_,_,_,i2,by rw[aA,cx];lia,.inr i4,rfl⟩;rw[c0x hA.nodup qV];rfl)
  rw[bF]at q2;exact⟨_,g1,l',x',y',z',u',q1,by lia,q3.resolve_left (λz=>by have:=dE d_ z;rw[bF,gh]at this;lia),rfl⟩
 ·rintro Z ⟨l,x,y,z,u,g,hl,h1,rfl⟩;refine⟨N5 l,?_,⟨(w8 l).nodup_iff.mpr g.1,λp hp=>g.2 p ((w8 l).mem_iff.mp hp)⟩,by rw[(w8 l).length_eq];exact hl,by rw[(w8 l).length_eq];exact h1,a7G g.1⟩;have hc:(n9 (iI (iL (a0F a0G (a6 4)))) [] pt1 tT (eI (D9 (a6 0)))) (pbT L e A B [eT l,x,y,z,u])=cz (.list ((N5 l).map iD)):=by
   refine L5 (enc:=C5) (xs:=N5 l) iD ?_ (by rw[(w8 l).length_eq];lia) λp _=>⟨[C5 p],rfl,?_⟩
   ·rw[a1f (ds:=(N5 l).map C5) ?_ (m6 _ a7I _)];rw[b2a,a7H (g:=(λ_=>cV yn)) (l:=l) rfl (by lia) λp _=>b0F p];rfl
   ·have hi:=u9 p;show eI (D9 (a6 0)) [.tuple (p.map .int)]=_;walk_at "ev"
  try walk_at "ev"
  rw[hc]
  try rfl
end Prog
namespace VS
open PySem L2
def b5z:D8 yn [.int i,.int j]=cz (.int (max i j)):=by
 show cz (aK (if j>i then j else i))=_
 congr 2;by_cases c:j>i
 ·rw[aB c];lia
 ·rw[aJ c];lia
end VS
namespace Prog
open PySem L2 VS
def b2x(w:WF m k):G6 [.list (m.map rwD)]=cz (.int (k:Nat)):=by
 have mv:=w.pos;have e0:(rowAt m 0).length=k:=w.row (by lia) (by lia);unfold G6;rw[A8 (by simp[VS.argsOk])];unfold a1N
 try walk_at "ev"
 rw[a1J (by lia) (by lia)]
 try walk_at "ev"
 rw[e0]
 try rfl
def b2y(h1:1<=M)(EI:M<=30):O2 [.int M,.int 30]=cz .none:=by
 unfold O2;rw[c2d (by simp[VS.argsOk,imm])];unfold a2o
 try walk_at "ev"
 rw[show U3 [.int M]=cz (.bool yn) by unfold U3;rw[A8 (by simp[VS.argsOk])];unfold a3P;walk_at "ev"]
 try walk_at "ev"
 rw[aW h1]
 try walk_at "ev"
 rw[aW EI]
 try walk_at "ev"
 try rfl
def b2z{m:i8}{k:Nat}(w:WF m k){L:i8}(hL:U5 [.list (m.map rwD)]=cz (.list (L.map rwD)))(C:Can L k){M:Int}{e:Nat}(M1:1<=M)(Al:M<=30)(he:(e:Int)=max (M-(L.length:Int)) 0)(kN:szF L.length k e<=3000)
  {ps:List (List Int)} (xw:C0 [.list (L.map rwD),.int (e:Nat)]=cz (.list (ps.map iD))) (g:GoodP k ps) (hl:ps.length<65536) :
  a1P [.list (m.map rwD),.int M]=cz (.list (ps.map λp=>cI [iD p,iD (g7 m 0 p).1])):=by
 have FZ:=C.wf.le;have EF:=C.wf.pos;have mv:=w.pos;have k1:=w.k1;have k5:=w.k5;unfold a1P;rw[A8 (by simp[VS.argsOk])];unfold b4D
 try walk_at "ev"
 rw[b2y M1 Al]
 try walk_at "ev"
 rw[hL]
 try walk_at "ev"
 rw[b5z,<-he]
 try walk_at "ev"
 rw[b2x w]
 try walk_at "ev"
 rw[b7K _ _ _ (by lia) (by lia) (by lia) (by lia) (by lia) (by lia)]
 try walk_at "ev"
 rw[bg (by lia)]
 try walk_at "ev"
 rw[xw]
 try walk_at "ev"
 rw[L5 (enc:=iD) (xs:=ps) (λp=>cI [iD p,iD (g7 m 0 p).1]) (by try walk_at "ev") (by lia) λp hp=>⟨[iD p],rfl,?_⟩]
 ·try rfl
 ·show K1 (a7 (a6 0) (a7 (e2 dIx (eCl E9 (a7 (a6 1) (a7 (eC (.int 0)) (a7 (a6 0) c6)))) (eC (.int 0))) c6)) [iD p,.list (m.map rwD)]=_
  try walk_at "ev"
  rw[a5l w (by lia) (by lia) (g.2 p hp).1 (by have:=(g.2 p hp).2;lia)]
  try walk_at "ev"
  try rfl
end Prog
local macro_rules | `(tactic| walk_at "evc")=>`(tactic| first | (walk_at "ev";repeat (simp -implicitDefEqProofs (disch:=first | omega | assumption | decide) only [Prog.a3V];try walk_at "ev")) | (simp -implicitDefEqProofs (disch:=first | omega | assumption | decide) only [Prog.a3V];repeat (first | walk_at "ev" | simp -implicitDefEqProofs (disch:=first | omega | assumption | decide) only [Prog.a3V])))
namespace Prog
open PySem L2 VS
def b2A(ns:List Int):∃mn:List Int,m_law_pool [.list (ns.map .int),.int 3]=cz (.list (mn.map .int))/\1<=mn.length:=by
 unfold m_law_pool;rw[A8 (by simp[VS.argsOk,imm])];unfold b_law_pool;walk_at "evc";have EU:(10^(60:Int).toNat:Int)=big:=by decide
 rw[v_pow (i:=10) (j:=60) (by decide),EU];have Cv:=c0j;generalize big=T at Cv;walk_at "evc";by_cases c:F5 ns 3 % 3=0
 ·rw[aW c];walk_at "evc";exact⟨[_,_],rfl,by simp⟩
 ·rw[bg c];walk_at "evc";by_cases c2:F5 ns 3 % 3=1
  ·rw[aW c2];walk_at "evc";exact⟨[_,_],rfl,by simp⟩
  ·rw[bg c2];walk_at "evc";have x0:=b7k ns (3+1);have x1:F5 ns (3+1)<2147483629:=eM _ (by decide);have hp:b0Y (F5 ns (3+1)) 7=yn:=by
    unfold b0Y;simp only[aC,BN];exact⟨⟨by decide,by decide⟩,by lia⟩
   rw[v_pow hp]
   try walk_at "evc"
   try rw[a1y (i:=2) (by decide)]
   try walk_at "evc"
   try rw[v_mod (by lia)]
   try walk_at "evc"
   exact⟨[_,_,_],rfl,by simp⟩
local macro_rules | `(tactic| walk_at "ev1")=>`(tactic| simp -implicitDefEqProofs only [VS.b3l,VS.b7Y,VS.b7X,VS.a9H,VS.b3k,VS.P0,nv,f_])
abbrev B3(ns mn:List Int)(n k:Nat)(t:List D):List D:=.list (ns.map .int)::.int 10::.int n::.int k::.list (mn.map .int)::t
abbrev b7L:EvS:=(f7 (j5 9 (eCl m_law_mixed (a7 (a6 0) (a7 (e2 J0 (e2 J0 (a6 1) (e2 a0Q (a6 6) (a6 3))) (a6 8)) c6)))) (J6 7 (.l .i) p6 (K1 (a7 (e2 o8 (a6 4) (e2 K0 (a6 9) (eCl B8 (a7 (a6 4) c6)))) (a7 (e2 K0 (e2 b5X (a6 9) (eC (.int 6))) (a6 2)) c6)))))
abbrev c2u:EvS:=(f7 (j5 7 (x5 c6)) (f7 (A7 (iR (a6 3)) (r9 8) b7L) (J6 5 (.l (.l .i)) p6 (a6 7))))
def a9l(ns:List Int){mn:List Int}{n k:Nat}(n1:1<=n)(CC:n<=12)(k1:1<=k)(k3:k<=3)(hm:1<=mn.length):∃m:i8,m_law_drawn [.list (ns.map .int),.int 10,.int n,.int k,.list (mn.map .int)]=cz (.list (m.map rwD))/\WF m k/\m.length=n:=by
 unfold m_law_drawn;rw[A8 (by simp[VS.argsOk,imm])];unfold b_law_drawn;walk_at "evc";rw[b1k (n:=n) (by walk_at "evc") (by lia) (by lia),bK];walk_at "evc";have row:∀s:Nat,s<n->∀(rows:D) (y z:D),∃(r:List (Int×Int)) (x' y':D),r.length=k/\(∀p∈r,0<=p.2/\p.2<(n:Int))/\
   (A7 (iR (a6 3)) (r9 8) b7L)
    (B3 ns mn n k [rows,.int s,.list [],y,z])=cz (.nx (B3 ns mn n k [rows,.int s,rwD r,x',y'])):=by
  intro s hs rows y z;walk_at "evc";rw[b1k (n:=k) (by walk_at "evc") (by lia) (by lia),bK];walk_at "evc";obtain⟨Z',h1,r,x',y',h2,h3,rfl⟩:=U1 (n:=k) (set:=r9 8) (g:=b7L)
   (Z:=(B3 ns mn n k [rows,.int s,.list [],y,z]))
   (λj Z=>∃(r:List (Int×Int)) (x' y':D),r.length=j/\(∀p∈r,0<=p.2/\p.2<(n:Int))/\Z=(B3 ns mn n k [rows,.int s,rwD r,x',y']))
   ⟨[],y,z,rfl,λp hp=>(nomatch hp),rfl⟩ (by
    rintro j hj Z ⟨r,x',y',hr,hp,rfl⟩;have FJ:(s:Int)*(k:Int)<=30*5:=by
     have:s*k<=30*5:=qO (by lia) (by lia)
     exact_mod_cast this
    have C_:0<=(s:Int)*(k:Int):=Int.mul_nonneg (by lia) (by lia);have c0:=fG (F5 ns (10+(s:Int)*k+j)) (show (mn.length:Int)≠0 by lia);have c1:=eM (F5 ns (10+(s:Int)*k+j)) (show (0:Int)<mn.length by lia);have d0:=fG (F5 ns (10+(s:Int)*k+j) / 6) (show ((n:Int))≠0 by lia);have d1:=eM (F5 ns (10+(s:Int)*k+j) / 6) (show (0:Int)<(n:Int) by lia);refine⟨_,(B3 ns mn n k [rows,.int s,rwD (r++[(mn.getD (F5 ns (10+(s:Int)*k+j) % mn.length).toNat 0,F5 ns (10+(s:Int)*k+j) / 6 % n)]),.int j,.int (F5 ns (10+(s:Int)*k+j))]),rfl,?_,_,_,_,by simp[hr],?_,rfl⟩
    ·unfold b7L;walk_at "evc";rw[a1y (i:=s) (by lia)];walk_at "evc";rw[R1 c0 c1];walk_at "evc";unfold rwD;rw[a1z (by simp;lia),aO];rfl
    ·intro p Di;rcases ao.mp Di with z|z
     ·exact hp p z
     ·rw[aq.mp z];exact⟨d0,d1⟩)
  exact⟨r,x',y',h2,h3,h1⟩
 refine X8 (R:=λo=>∃m:i8,o=cz (.list (m.map rwD))/\WF m k/\m.length=n) (λZ=>∃(m:i8) (x y z w:D),m.length=n/\(∀r∈m,r.length=k/\∀p∈r,0<=p.2/\p.2<(n:Int))/\Z=(B3 ns mn n k [.list (m.map rwD),x,y,z,w])) ?_ ?_
 ·obtain⟨Z',h1,h2⟩:=U1 (n:=n) (set:=r9 6) (Z:=(B3 ns mn n k [.list [],.none,.none,.none,.none]))
   (g:=c2u)
   (λj Z=>∃(m:i8) (x y z w:D),m.length=j/\(∀r∈m,r.length=k/\∀p∈r,0<=p.2/\p.2<(n:Int))/\Z=(B3 ns mn n k [.list (m.map rwD),x,y,z,w]))
   ⟨[],.none,.none,.none,.none,rfl,λr hr=>(nomatch hr),rfl⟩ (by
    rintro j hj Z ⟨m,x,y,z,w,rM,tO,rfl⟩;obtain⟨r,x',y',Dg,Df,De⟩:=row j hj (.list (m.map rwD)) z w;refine⟨_,(B3 ns mn n k [.list ((m++[r]).map rwD),.int j,rwD r,x',y']),rfl,?_,m++[r],_,_,_,_,by simp[rM],?_,rfl⟩
    ·unfold c2u;rw[Q3];walk_at "ev1";rw[Q3,De];walk_at "evc";rw[a1z (by simp;lia),aO];rfl
    ·intro q hq;rcases ao.mp hq with c|c
     ·exact tO q c
     ·rw[aq.mp c];exact⟨Dg,Df⟩)
  exact⟨Z',h1,h2⟩
 ·rintro Z ⟨m,x,y,z,w,h1,h2,rfl⟩;walk_at "evc";exact⟨m,rfl,⟨by lia,by lia,k1,by lia,λr hr=>(h2 r hr).1,λr hr p hp=>by rw[h1];exact (h2 r hr).2 p hp⟩,h1⟩
def a6n(ns:List Int):∃(m:i8) (k:Nat),m_law_machine [.list (ns.map .int)]=cz (.list (m.map rwD))/\WF m k/\m.length<=12/\k<=3/\(5<m.length->k<=2):=by
 unfold m_law_machine;rw[A8 (by simp[VS.argsOk])];unfold b_law_machine;walk_at "evc";obtain⟨mn,hm,tO⟩:=b2A ns;have fin:∀a b:Int,1<=a->a<=12->1<=b->b<=3->(5<a->b<=2)->∃(m:i8) (k:Nat),m_law_drawn [.list (ns.map .int),.int 10,.int a,.int b,.list (mn.map .int)]=cz (.list (m.map rwD))/\WF m k/\m.length<=12/\k<=3/\(5<m.length->k<=2):=λa b a1 a2 b1 b2 h=>by
  obtain⟨m,q1,q2,q3⟩:=a9l ns (n:=a.toNat) (k:=b.toNat) (by lia) (by lia) (by lia) (by lia) tO;rw[jz (by lia),jz (by lia)]at q1;exact⟨m,_,q1,q2,by lia,by lia,by lia⟩
 have em:∀(i b:Int),0<b->0<=F5 ns i % b/\F5 ns i % b<b:=λi b hb=>⟨fG _ (by lia),eM _ hb⟩
 by_cases c:F5 ns 2 % 8=5
 ·rw[aW c];walk_at "evc";have a:=em 0 7 (by decide);have b:=em 1 2 (by decide);obtain⟨m,k,q1,q2⟩:=fin (6+F5 ns 0 % 7) (1+F5 ns 1 % 2) (by lia) (by lia) (by lia) (by lia) (by lia);rw[hm];walk_at "evc";rw[q1];walk_at "evc";exact⟨m,k,rfl,q2⟩
 ·rw[bg c];walk_at "evc";have a:=em 0 5 (by decide);have b:=em 1 3 (by decide);obtain⟨m,k,q1,q2⟩:=fin (1+F5 ns 0 % 5) (1+F5 ns 1 % 3) (by lia) (by lia) (by lia) (by lia) (by lia);rw[hm];walk_at "evc";rw[q1];walk_at "evc";exact⟨m,k,rfl,q2⟩
end Prog
namespace VS
open PySem L2
def b0J{i:Nat}{us:List Ty}{t:Ty}{fa fj fe:EvE}{Z ds es xs:List D}{d:D}{a j:Int}(h:Z.getD i .none=.list ds)(ha:fa Z=cz (.int a))(a0:0<=a)(a1:a<ds.length)(he:ds[a.toNat]?=cz (.tuple es))(hj:fj Z=cz (.int j))(h0:0<=j)(h1:j<es.length)(hu:us[j.toNat]?=cz (.l t))(hx:es[j.toNat]?=cz (.list xs))(hf:fe Z=cz d)(hl:xs.length<1000000) :
  J6 i (.l (.tp us)) (pIx i (.l (.tp us)) (pIx i (.l (.tp us)) p6 fa) fj) fe Z=cz (.nx (Z.set i (.list (ds.set a.toNat (.tuple (es.set j.toNat (.list (xs++[d])))))))):=by
 have hp:pIx i (.l (.tp us)) (pIx i (.l (.tp us)) p6 fa) fj Z=cz [a.toNat,j.toNat]:=by
  show ((pIx i (.l (.tp us)) p6 fa Z).bind λp=>_)=_;rw[c3I h ha a0 a1];show (x8 (.l (.tp us)) (Z.getD i .none) [a.toNat]).bind _=_;have hi:x8 (.l (.tp us)) (Z.getD i .none) [a.toNat]=cz es:=by
   rw[h];unfold x8 dAt;rw[he];rfl
  rw[hi];show (fj Z).bind _=_;rw[hj];show (ixN es.length j).bind _=_;rw[a3M h0 h1];rfl
 unfold J6;rw[hp,h];show (x8 (.l (.tp us)) (.list ds) [a.toNat,j.toNat]).bind _=_;have hi:x8 (.l (.tp us)) (.list ds) [a.toNat,j.toNat]=cz xs:=by
  have hd:dAt (.l (.tp us)) (.list ds) [a.toNat,j.toNat]=cz (.l t,.list xs):=by
   show (ds[a.toNat]?).bind _=_;rw[he];show (us[j.toNat]?).bind (λu=>(es[j.toNat]?).bind λd=>dAt u d [])=_;rw[hu];show (es[j.toNat]?).bind _=_;rw[hx];rfl
  unfold x8;rw[hd];rfl
 rw[hi];show (fe Z).bind _=_;rw[hf];show (if xs.length<1000000 then _ else _)=_;rw[aB hl];have hg:ds.getD a.toNat .none=.tuple es:=by rw[af,he];rfl
 show cz (Out.nx (Z.set i (.list (ds.set a.toNat (a0W (ds.getD a.toNat .none) [j.toNat] (.list (xs++[d])))))))=_;rw[hg];rfl
def a9m:D8 yp [.int i,.int j]=cz (.int (min i j)):=by
 show cz (aK (if j<i then j else i))=_
 congr 2;by_cases c:j<i
 ·rw[aB c];lia
 ·rw[aJ c];lia
end VS
namespace Prog
open PySem L2 VS
def b2B(ns:List Int)(w:WF m k)(c1:1<=c)(Gq:c<=30):∃M:Int,m_law_most [.list (ns.map .int),.list (m.map rwD),.int c]=cz (.int M)/\1<=M/\M<=30/\M<=c+2/\(5<m.length->M<=c):=by
 have mv:=w.pos;have hk:=w.k5;have hle:=w.le;have e0:(rowAt m 0).length=k:=w.row (by lia) (by lia);have q0:=fG (F5 ns 7) (show (6:Int)≠0 by decide);have q1:=eM (F5 ns 7) (show (0:Int)<6 by decide);obtain⟨x,hx,x0,x1⟩:∃x:Int,L2.atI [aK 0,.int 1,.int 2,.int 0,.int 1,.int (-1)] (F5 ns 7 % 6)=cz (.int x)/\-1<=x/\x<=2:=by
  generalize F5 ns 7 % 6=q at q0 q1;have:q=0\/q=1\/q=2\/q=3\/q=4\/q=5:=by lia
  rcases this with rfl|rfl|rfl|rfl|rfl|rfl<;>exact⟨_,rfl,by decide,by decide⟩
 unfold m_law_most;rw[A8 (by simp[VS.argsOk,imm])];unfold b_law_most;have hA:(j5 3 (e2 o8 (x5 (a7 (eC (.int 0)) (a7 (eC (.int 1)) (a7 (eC (.int 2)) (a7 (eC (.int 0)) (a7 (eC (.int 1)) (a7 (eC (.int (-1))) c6))))))) (e2 K0 (eCl m_law_mixed (a7 (a6 0) (a7 (eC (.int 7)) c6))) (eC (.int 6))))) [.list (ns.map .int),.list (m.map rwD),.int c,.none]=cz (.nx [.list (ns.map .int),.list (m.map rwD),.int c,.int x]):=by
  walk_at "evc";rw[hx];walk_at "evc"
 show ∃M:Int,a1x (f7 _ _ [.list (ns.map .int),.list (m.map rwD),.int c,.none])=_/\_;rw[Q3,hA,P0,Q3];refine X8 (R:=λo=>∃M:Int,o=cz (.int M)/\1<=M/\M<=30/\M<=c+2/\(5<m.length->M<=c)) (λZ=>∃y:Int,-1<=y/\y<=2/\Z=[.list (ns.map .int),.list (m.map rwD),.int c,.int y]) ?_ ?_
 ·walk_at "evc";rw[a1J (by lia) (by lia)];walk_at "evc";rw[e0,a1y (i:=(m.length:Nat)) (by lia)];walk_at "evc";cases decide (8<(m.length:Int)*(k:Int)) with
  |true=>
   walk_at "evc";rw[a9m];exact⟨_,rfl,_,by lia,by lia,rfl⟩
  |false=>
   walk_at "evc";exact⟨_,rfl,_,x0,x1,rfl⟩
 rintro Z ⟨y,y0,y1,rfl⟩;rw[Q3];refine X8 (R:=λo=>∃M:Int,o=cz (.int M)/\1<=M/\M<=30/\M<=c+2/\(5<m.length->M<=c)) (λZ=>∃z:Int,-1<=z/\z<=2/\(5<m.length->z<=0)/\Z=[.list (ns.map .int),.list (m.map rwD),.int c,.int z]) ?_ ?_
 ·walk_at "evc";by_cases h:(5:Int)<m.length
  ·rw[aW h];walk_at "evc";rw[a9m];exact⟨_,rfl,_,by lia,by lia,λ_=>by lia,rfl⟩
  ·rw[bg h];walk_at "evc";exact⟨_,rfl,_,y0,y1,λ_=>by lia,rfl⟩
 rintro Z ⟨z,z0,z1,z2,rfl⟩;walk_at "evc";rw[a9m];walk_at "evc";rw[b5z];walk_at "evc";exact⟨_,rfl,by lia,by lia,by lia,λh=>by have:=z2 h;lia⟩
def c0A(hl:l<=n)(CC:n<=12)(k1:1<=k)(k3:k<=3)(e2:e<=2)(h:5<n->k<=2/\e=0):szF (l:Nat) (k:Nat) (e:Nat)<=3000/\k^(e+1)<=3125/\(G8 k (e+1)).length<=64/\e<=30:=by
 have h2:∀k,k<4->∀e,e<3->k^(e+1)<=3125/\(G8 k (e+1)).length<=64:=by decide
 obtain⟨a,b⟩:=h2 k (by lia) e (by lia);refine⟨?_,a,b,by lia⟩;by_cases c:5<n
 ·obtain⟨q1,rfl⟩:=h c;have h1:∀l,l<13->∀k,k<3->szF (l:Nat) (k:Nat) ((0:Nat):Nat)<=3000:=by decide
  exact h1 l (by lia) k (by lia)
 ·have h1:∀l,l<6->∀k,k<4->∀e,e<3->szF (l:Nat) (k:Nat) (e:Nat)<=3000:=by decide
  exact h1 l (by lia) k (by lia) e (by lia)
def a5m(p:List Int):m_law_wholes [iD p]=cz (.bool yn):=by
 unfold m_law_wholes;rw[A8 (by simp[VS.argsOk])];unfold b_law_wholes;walk_at "ev";refine E7 (λZ=>∃x,Z=[iD p,x]) ?_ ?_
 ·obtain⟨Z',h2,x,rfl⟩:=t5 (enc:=aK) (set:=r9 1) (xs:=p) (Z:=[iD p,.none]) (g:=(sIf (P9 (tNo (tV (e1 (λd=>cz (.bool (isInt d))) (a6 1)))) (tV (e1 (λd=>cz (.bool (isBool d))) (a6 1)))) (p7 (eC (.bool yp))) z9))
   (λ_ Z=>∃x,Z=[iD p,x]) ⟨_,rfl⟩ (by
    rintro pre a post e Z ⟨x,rfl⟩;refine⟨_,[iD p,.int a],rfl,?_,_,rfl⟩;walk_at "ev")
  exact⟨_,h2,_,rfl⟩
 ·rintro Z ⟨x,rfl⟩;walk_at "ev"
def a9n(w:WF m k)(hp:∀x∈p,0<=x/\x<(k:Int))(hl:p.length<=13000):m_law_answers [.list (m.map rwD),iD p]=cz (iD (g7 m 0 p).1):=by
 have mv:=w.pos;have h1:(0:Int)<m.length:=by lia
 unfold m_law_answers;rw[A8 (by simp[VS.argsOk,imm])];unfold b_law_answers;walk_at "ev";rw[a1f (ds:=p.map .int) (by walk_at "ev") (u9 p)];walk_at "ev";refine E7 (λZ=>∃x y:D,Z=[.list (m.map rwD),iD p,.list ((g7 m 0 p).1.map .int),.int (g7 m 0 p).2,x,y]) ?_ ?_
 ·obtain⟨Z',h2,x,y,rfl⟩:=t5 (enc:=aK) (set:=r9 4) (xs:=p) (Z:=[.list (m.map rwD),iD p,.list [],.int 0,.none,.none])
   (g:=(f7 (a6F 5 3 (e2 o8 (e2 dIx (a6 0) (a6 3)) (a6 4))) (J6 2 (.l .i) p6 (a6 5))))
   (λpre Z=>∃x y:D,Z=[.list (m.map rwD),iD p,.list ((g7 m 0 pre).1.map .int),.int (g7 m 0 pre).2,x,y]) ⟨_,_,rfl⟩ (by
    rintro pre a post e Z ⟨x,y,rfl⟩;have nL:∀b∈pre,0<=b/\b<(k:Int):=λb hb=>hp b (by rw[e];exact aj _ hb)
    have ha:=hp a (by rw[e];simp);have hs:=a0d w pre 0 (by lia) h1 nL;have hr:=w.row hs.1 hs.2;have hlen:pre.length<13000:=by have:=dE d_ e;simp at this;lia
    refine⟨_,[.list (m.map rwD),iD p,.list ((g7 m 0 (pre++[a])).1.map .int),.int (g7 m 0 (pre++[a])).2,.int a,.int (stp m (g7 m 0 pre).2 a).1],rfl,?_,_,_,rfl⟩;walk_at "ev";rw[a1J hs.1 hs.2];walk_at "ev";rw[a8O ha.1 (by lia)];walk_at "ev";rw[a1z (by rw[ai,a0c];lia),U2,aO];rfl)
  exact⟨_,h2,_,_,rfl⟩
 ·rintro Z ⟨x,y,rfl⟩;walk_at "ev"
def b8g:a8D (.tuple [.int a,iD p]) (.tuple [.int b,iD q])=cz (.bool !q9 (b::q) (a::p)):=by
 show ((intsOf (p.map .int)).map λns=>(a,ns)).bind (λx=>((intsOf (q.map .int)).map λns=>(b,ns)).bind λy=>cz (cV !q9 (y.1::y.2) (x.1::x.2)))=_;rw[N1,N1];rfl
def c2v(h:q9 (r8 p) (r8 q)=yn):a8D (.tuple [.int q.length,iD q]) (.tuple [.int p.length,iD p])=cz (.bool yp):=by
 rw[b8g,show q9 (((p.length:Nat):Int)::p) (((q.length:Nat):Int)::q)=yn from h];rfl
def c2w(p:List Int):a8D (.tuple [.int p.length,iD p]) (.tuple [.int (-1),iD []])=cz (.bool yp):=by
 rw[b8g,q9,aJ (by lia),aW (by lia)];rfl
def bkR(m:i8)(p:List Int):D:=.tuple [iD p,iD (g7 m 0 p).1]
def c0B(m:i8)(p:List Int):(bkR m p).canLay0=yn:=by
 have h1:=lay_ints p;have h2:=lay_ints (g7 m 0 p).1;unfold bkR;simp only[cE,aY,fQ,aC]at h1 h2 ⊢;exact⟨h1,h2⟩
def c0C(m:i8)(p:List Int):(bkR m p).depth<=2:=by
 have h1:=U0 p;have h2:=U0 (g7 m 0 p).1;unfold bkR;simp only[dN,cW]at h1 h2 ⊢;lia
def a1o(m:i8)(ps:List (List Int)):(b_ (ps.map (bkR m))).canLay0=yn:=by simp only[cE];exact a0b _ (c0B m) ps
def a2P(m:i8)(ps:List (List Int)):(b_ (ps.map (bkR m))).depth<=60:=by
 simp only[dN];have:=G0 (bkR m) 2 (c0C m) ps;lia
abbrev bkS(m:i8)(ps:List (List Int))(x y z:D):List D:=[.list (ps.map (bkR m)),.list (m.map rwD),x,y,z]
abbrev c0D:EvS:=(sIf (P9 (tNo (tV (e1 (λd=>cz (.bool (Z3 d))) (a6 3)))) (P9 (tB (e2 dNe (eCl B8 (a7 (a6 3) c6)) (eC (.int 2)))) (P9 (tNo (tV (eCl m_law_wholes (a7 (e2 dIx (a6 3) (eC (.int 0))) c6)))) (tNo (tV (eCl m_law_wholes (a7 (e2 dIx (a6 3) (eC (.int 1))) c6))))))) (p7 (eC (.bool yp))) z9)
abbrev b7M:EvS:=(sIf (P9 (tB (e2 dLt (a6 4) (eC (.int 0)))) (tB (e2 dGe (a6 4) (eCl B8 (a7 (e2 dIx (a6 1) (eC (.int 0))) c6))))) (p7 (eC (.bool yp))) z9)
abbrev c0E:EvS:=(sIf (P9 (tB (e2 a8D (K1 (a7 (eCl B8 (a7 (e2 dIx (a6 3) (eC (.int 0))) c6)) (a7 (e2 dIx (a6 3) (eC (.int 0))) c6))) (a6 2))) (tB (e2 dNe (e2 dIx (a6 3) (eC (.int 1))) (eCl m_law_answers (a7 (a6 1) (a7 (e2 dIx (a6 3) (eC (.int 0))) c6)))))) (p7 (eC (.bool yp))) z9)
abbrev c0F:EvS:=(f7 c0D (f7 (A7 (iL (e2 dIx (a6 3) (eC (.int 0)))) (r9 4) b7M) (f7 c0E (j5 2 (K1 (a7 (eCl B8 (a7 (e2 dIx (a6 3) (eC (.int 0))) c6)) (a7 (e2 dIx (a6 3) (eC (.int 0))) c6)))))))
def a9o(w:WF m k)(g:GoodP k ps)(hp:ps.Pairwise λp q=>q9 (r8 p) (r8 q)=yn):m_law_is_book [.list (ps.map (bkR m)),.list (m.map rwD)]=cz (.bool yn):=by
 have mv:=w.pos;have e0:(rowAt m 0).length=k:=w.row (by lia) (by lia);unfold m_law_is_book;rw[A8 (by simp[VS.argsOk])];unfold b_law_is_book;walk_at "ev";refine E7 (λZ=>∃x y z,Z=(bkS m ps x y z)) ?_ ?_
 ·obtain⟨Z',h2,x,y,z,_,rfl⟩:=t5 (enc:=bkR m) (set:=r9 3) (xs:=ps) (Z:=(bkS m ps (.tuple [.int (-1),.list []]) .none .none)) (g:=c0F)
   (λpre Z=>∃x y z,(pre=[]/\x=.tuple [.int (-1),iD []]\/∃q pr,pre=pr++[q]/\x=.tuple [.int q.length,iD q])/\Z=(bkS m ps x y z)) ⟨_,_,_,.inl ⟨rfl,rfl⟩,rfl⟩ (by
    rintro pre p post e Z ⟨x,y,z,hx,rfl⟩;have hg:=g.2 p (by rw[e];simp);have hle:a8D (.tuple [.int p.length,iD p]) x=cz (.bool yp):=by
     rcases hx with⟨_,rfl⟩|⟨q,pr,rfl,rfl⟩
     ·exact c2w p
     ·refine c2v ?_;rw[e,aN,dt]at hp;have h2:=hp.2.1;rw[List.singleton_append,gc]at h2;exact h2.1 p (by simp)
    have h1:c0D (bkS m ps x (.tuple [iD p,iD (g7 m 0 p).1]) z)=cz (.nx (bkS m ps x (.tuple [iD p,iD (g7 m 0 p).1]) z)):=by
     unfold c0D;walk_at "ev";rw[aW (show (([iD p,iD (g7 m 0 p).1].length:Nat):Int)=2 from rfl)];walk_at "ev";rw[a5m];walk_at "ev";rw[a5m];walk_at "ev"
    have h2:∃z',(A7 (iL (e2 dIx (a6 3) (eC (.int 0)))) (r9 4) b7M) (bkS m ps x (.tuple [iD p,iD (g7 m 0 p).1]) z)=cz (.nx (bkS m ps x (.tuple [iD p,iD (g7 m 0 p).1]) z')):=by
     walk_at "ev";obtain⟨Z',q1,z',rfl⟩:=t5 (enc:=aK) (set:=r9 4) (xs:=p) (Z:=(bkS m ps x (.tuple [iD p,iD (g7 m 0 p).1]) z)) (g:=b7M)
      (λ_ Z=>∃z,Z=(bkS m ps x (.tuple [iD p,iD (g7 m 0 p).1]) z)) ⟨_,rfl⟩ (by
       rintro pr a po e1 Z ⟨z,rfl⟩;have ha:=hg.1 a (by rw[e1];simp);refine⟨_,(bkS m ps x (.tuple [iD p,iD (g7 m 0 p).1]) (.int a)),rfl,?_,_,rfl⟩;unfold b7M;walk_at "ev";rw[bg (show ¬ a<0 by lia)];walk_at "ev";rw[a1J (by lia) (by lia)];walk_at "ev";rw[e0,bg (show ¬ a≥(k:Int) by lia)];walk_at "ev")
     exact⟨_,q1⟩
    obtain⟨z',h2⟩:=h2;have h3:c0E (bkS m ps x (.tuple [iD p,iD (g7 m 0 p).1]) z')=cz (.nx (bkS m ps x (.tuple [iD p,iD (g7 m 0 p).1]) z')):=by
     unfold c0E;walk_at "ev";rw[hle];walk_at "ev";rw[a9n w hg.1 (by have:=hg.2;lia)];walk_at "ev";rw[b0a (lay_ints _) (by have:=U0 (g7 m 0 p).1;lia)];walk_at "ev"
    refine⟨_,(bkS m ps (.tuple [.int p.length,iD p]) (.tuple [iD p,iD (g7 m 0 p).1]) z'),rfl,?_,_,_,_,.inr ⟨p,pre,rfl,rfl⟩,rfl⟩;show c0F (bkS m ps x (.tuple [iD p,iD (g7 m 0 p).1]) z)=_;unfold c0F;rw[Q3,h1,P0,Q3,h2,P0,Q3,h3,P0];walk_at "ev"
    try rfl)
  exact⟨_,h2,_,_,_,rfl⟩
 ·rintro Z ⟨x,y,z,rfl⟩;walk_at "ev"
end Prog
local macro_rules | `(tactic| walk_at "evs")=>`(tactic| first | (walk_at "ev";repeat (simp -implicitDefEqProofs (disch:=first | omega | assumption | decide) only [VS.b7c,VS.b0d,VS.b0e,VS.b7d,VS.b0c];try walk_at "ev")) | (simp -implicitDefEqProofs (disch:=first | omega | assumption | decide) only [VS.b7c,VS.b0d,VS.b0e,VS.b7d,VS.b0c];repeat (first | walk_at "ev" | simp -implicitDefEqProofs (disch:=first | omega | assumption | decide) only [VS.b7c,VS.b0d,VS.b0e,VS.b7d,VS.b0c])))
namespace Prog
open PySem L2 VS
def atI_last{ds:List D}(h:0<ds.length):L2.atI ds (-1)=cz (ds.getD (ds.length-1) .none):=by
 unfold L2.atI ixN;rw[aJ (by decide),aB (by lia)];show ds[(((ds.length:Nat):Int) + -1).toNat]?=_;rw[show (((ds.length:Nat):Int) + -1).toNat=ds.length-1 by lia,af,ab (by lia)];rfl
def c2x{m:i8}(h:0<m.length):L2.atI (m.map rwD) (-1)=cz (rwD (rowAt m ((m.length:Int)-1))):=by
 rw[atI_last (by rw[ai];exact h),ai,af,aQ,ab (by lia)];unfold rowAt;rw[show ((m.length:Int)-1).toNat=m.length-1 by lia,af,ab (by lia)];rfl
def c2y{r:List (Int×Int)}(h:0<r.length):dIx (rwD r) (.int (-1))=cz (stD (r.getD (r.length-1) (0,0))):=by
 show L2.atI (r.map stD) (-1)=_;rw[atI_last (by rw[ai];exact h),ai,af,aQ,af,ab (by lia)];rfl
def b7N{ps:List (List Int)}(h:1<=ps.length):dEq (.list (ps.map (bkR m))) (.list [])=cz (.bool yp):=by
 show dEq (.list (ps.map (bkR m))) (.list (([]:List (List Int)).map (bkR m)))=_;rw[a9Z (a1o m ps) (a1o m []) (a2P m ps)];cases ps with
 |nil=>simp at h
 |cons p ps=>simp[aF,bN]
abbrev lwS(ns:List Int)(m:i8)(M:Int)(t:List D):List D:=.list (ns.map .int)::.list (m.map rwD)::.int M::.list (m.map rwD)::t
def law_true(ns:List Int)(rL:ns.length<=63):m_law [.list (ns.map .int)]=cz (.bool yn):=by
 obtain⟨m,k,zc,w,CG,k3,mk⟩:=a6n ns;obtain⟨L,hL,CL,SL,Lm⟩:=b2p w;have hle:=w.le;have mv:=w.pos;have k1:=w.k1;have EF:=CL.wf.pos;have e0:(rowAt m 0).length=k:=w.row (by lia) (by lia);obtain⟨M,hM,M1,Al,Mc,M5⟩:=b2B ns w (c:=L.length) (by lia) (by lia);obtain⟨e,he⟩:∃e:Nat,(e:Int)=max (M-(L.length:Int)) 0:=⟨(M-(L.length:Int)).toNat,by lia⟩;obtain⟨f1,f2,f3,f4⟩:=c0A (l:=L.length) (n:=m.length) (k:=k) (e:=e) Lm CG k1 k3 (by lia) (λh=>⟨mk h,by have:=M5 h;lia⟩);obtain⟨ps,p1,p2,p3,p4,p5⟩:=b2w CL f4 f2 f3;have b1:a1P [.list (m.map rwD),.int M]=cz (.list (ps.map (bkR m))):=b2z w hL CL M1 Al he f1 p1 p2 p3;have x0:=fG (F5 ns 8) (show (ps.length:Int)≠0 by lia);have x1:=eM (F5 ns 8) (show (0:Int)<ps.length by lia);obtain⟨q,hq,tI⟩:∃q:Nat,F5 ns 8 % (ps.length:Int)=q/\q<ps.length:=⟨(F5 ns 8 % (ps.length:Int)).toNat,by lia,by lia⟩;unfold m_law;rw[A8 (by simp[VS.argsOk])];unfold b_law;walk_at "evc";rw[zc];walk_at "evc";rw[b4w (m:=m) (by walk_at "evc") (by lia)];walk_at "evc";rw[hL];walk_at "evc";rw[hM];walk_at "evc";rw[b4w (m:=m) (by walk_at "evc") (by lia)];walk_at "evc";rw[b1];walk_at "evc";rw[a9o w p2 p5];walk_at "evc";rw[b7N p4];walk_at "evc";rw[neM];walk_at "evc";have hc:n9 (iL (a6 4)) [] pt2 tT (K1 (a7 (eI (D9 (a6 0))) (a7 (eI (D9 (a6 1))) c6))) (lwS ns m M [.list (ps.map (bkR m)),.none,.none,.none])=cz (.list (ps.map (bkR m))):=by
  rw[L5 (enc:=bkR m) (xs:=ps) (bkR m) (by walk_at "ev") (by lia) λp _=>⟨[iD p,iD (g7 m 0 p).1],rfl,?_⟩];have hi:∀l:List Int,lIs (cz (.list (l.map aK)))=cz (.list (l.map .int)):=λl=>a2K
  show K1 (a7 (eI (D9 (a6 0))) (a7 (eI (D9 (a6 1))) c6)) [iD p,iD (g7 m 0 p).1]=_;walk_at "ev";rw[hi,hi];rfl
 rw[hc];walk_at "evc";rw[hq];obtain⟨P,hP⟩:∃P,P=ps[q]:=⟨_,rfl⟩;have Ez:P.length<=100:=(p2.2 P (by rw[hP];exact dm _)).2;have Gb:(g7 m 0 P).1.length<=100:=by rw[a0c];exact Ez
 have hg:(ps.map (bkR m))[((q:Nat):Int).toNat]?=cz (.tuple [iD P,iD (g7 m 0 P).1]):=by
  rw[bK,aQ,ab tI,<-hP];rfl
 have sA:=b0J (i:=4) (us:=[.l .i,.l .i]) (t:=.i) (fa:=a6 6) (fj:=eC (.int 0)) (fe:=eC (.int 0)) (Z:=(lwS ns m M [.list (ps.map (bkR m)),.list (ps.map (bkR m)),.int q,.none])) (a:=q) (j:=0) rfl rfl (by lia) (by rw[ai];lia) hg rfl (by decide) (show (0:Int)<((2:Nat):Int) by decide) rfl rfl rfl (by rw[ai];lia);rw[sA,P0,Q3];obtain⟨T1,Bu⟩:∃T1,T1=cI ([iD P,iD (g7 m 0 P).1].set (0:Int).toNat (.list (P.map aK++[.int 0]))):=⟨_,rfl⟩;rw[<-Bu];have DX:((ps.map (bkR m)).set ((q:Nat):Int).toNat T1)[((q:Nat):Int).toNat]?=cz (.tuple [.list (P.map aK++[.int 0]),iD (g7 m 0 P).1]):=by
  rw[dO (by rw[ai,bK];exact tI),Bu];rfl
 have nh:=b0J (i:=4) (us:=[.l .i,.l .i]) (t:=.i) (fa:=a6 6) (fj:=eC (.int 1)) (fe:=eC (.int 0)) (Z:=(lwS ns m M [.list ((ps.map (bkR m)).set ((q:Nat):Int).toNat T1),.list (ps.map (bkR m)),.int q,.none])) (a:=q) (j:=1) rfl rfl (by lia) (by rw[gU,ai];lia) DX rfl (by decide) (show (1:Int)<((2:Nat):Int) by decide) rfl rfl rfl (by rw[ai];lia);show a1x (thn (J6 4 (.l (.tp [(.l .i),(.l .i)])) (pIx 4 (.l (.tp [(.l .i),(.l .i)])) (pIx 4 (.l (.tp [(.l .i),(.l .i)])) p6 (a6 6)) (eC (.int 1))) (eC (.int 0)) (lwS ns m M [.list ((ps.map (bkR m)).set ((q:Nat):Int).toNat T1),.list (ps.map (bkR m)),.int q,.none])) _)=_;rw[nh,P0,ui,bK];generalize cI ([b_ (P.map aK++[.int 0]),iD (g7 m 0 P).1].set (1:Int).toNat (.list ((g7 m 0 P).1.map aK++[.int 0])))=T2;show a1x (f7 _ _ (lwS ns m M [.list ((ps.map (bkR m)).set q T2),.list (ps.map (bkR m)),.int q,.none]))=_;have pI:((ps.map (bkR m)).set q T2).length=ps.length:=by rw[gU,ai]
 have pJ:(sIf (P9 (tB (e2 dNe (eSl (a6 4) oNo (oSo (a6 6))) (eSl (a6 5) oNo (oSo (a6 6))))) (tB (e2 dNe (eSl (a6 4) (oSo (e2 J0 (a6 6) (eC (.int 1)))) oNo) (eSl (a6 5) (oSo (e2 J0 (a6 6) (eC (.int 1)))) oNo)))) (p7 (eC (.bool yp))) z9) (lwS ns m M [.list ((ps.map (bkR m)).set q T2),.list (ps.map (bkR m)),.int q,.none])=cz (.nx (lwS ns m M [.list ((ps.map (bkR m)).set q T2),.list (ps.map (bkR m)),.int q,.none])):=by
  walk_at "evs";rw[a8N (by lia) (by rw[pI];lia),a8N (by lia) (by rw[ai];lia),xX (by lia),<-sg,b0a (a1o m _) (a2P m _)];walk_at "evs";rw[b4t (by lia) (by rw[pI];lia),b4t (by lia) (by rw[ai];lia),xZ (by lia),<-List.map_drop,b0a (a1o m _) (a2P m _)];walk_at "evs"
 rw[Q3,pJ,P0];generalize (ps.map (bkR m)).set q T2=X at pI;obtain⟨d0,zC⟩:∃d0,L2.atI X 0=cz d0:=⟨_,X1 (by lia) (by lia)⟩;walk_at "evc";rw[zC,a8M (by lia)];walk_at "evc";rw[b1];walk_at "evc";have eL:(rowAt m ((m.length:Int)-1)).length=k:=w.row (by lia) (by lia);have we:∃dv,(K1 (a7 (e2 a3b (eC (.int 7)) (e2 K0 (e2 o8 (e2 o8 (e2 dIx (a6 1) (eC (.int 0))) (eC (.int 0))) (eC (.int 0))) (eC (.int 2)))) (a7 (e2 o8 (e2 o8 (e2 dIx (a6 1) (eC (.int (-1)))) (eC (.int (-1)))) (eC (.int 1))) c6))) (lwS ns m M [.list (X++[d0]),.list (ps.map (bkR m)),.int q,.list (ps.map (bkR m))])=cz dv:=by
  walk_at "evc";rw[a1J (by lia) (by lia)];walk_at "evc";rw[a8O (by lia) (by lia)];walk_at "evc";rw[c2x mv];walk_at "evc";rw[c2y (by lia)];walk_at "evc";exact⟨_,rfl⟩
 obtain⟨dv,we⟩:=we;have Dd:=c3z (t:=.i) (i:=3) (fa:=eC (.int 0)) (fj:=eC (.int 0)) (a:=0) (j:=0) (ds:=m.map rwD) (es:=(rowAt m 0).map stD) rfl we rfl (by decide) (by rw[ai];lia) (by
  rw[show (0:Int).toNat=0 from rfl,aQ,ab mv];unfold rowAt;rw[show (0:Int).toNat=0 from rfl,af,ab mv];rfl) rfl (by decide) (by rw[ai,e0];lia)
 rw[Dd,P0];obtain⟨Y,hY⟩:∃Y,Y=(m.map rwD).set (0:Int).toNat (.list (((rowAt m 0).map stD).set (0:Int).toNat dv)):=⟨_,rfl⟩;have FW:Y.length=m.length:=by rw[hY,gU,ai]
 rw[<-hY];obtain⟨d1,tW⟩:∃d1,L2.atI Y 0=cz d1:=⟨_,X1 (by lia) (by lia)⟩;walk_at "evc";rw[tW,a8M (by lia)];walk_at "evc";rw[c1Y (a1o m ps) (a2P m ps)];rfl
def c0G{l:W.OpenLaw}{w:bZ}{K:W.Frag}{mg:bE->Option ak}{fa:av}(zu:mg "law"=cz (.ref fa))(b:Bn K mg)(kP:(B0 K "ways_by_state").isSome=yn)
  : ∃fd:dS,(∀(s:ar) (v:ak),ox s fd ⟨[v],[]⟩ [("_law_script",v)])/\∀base:cS,K.In base->base.Ns bV mg->FnOk l.prog w K mg base CX0 8 fa fd ["_law_script"] (spD K 1 m_law .i):=c0f zu b.d33 λbase KB GB fd F=>by
 have B:Bk l.prog w K mg base:=⟨b⟩;have cB:=ok_law_mixed B;have jP:=ok_law_drawn B cB.u;have ko:=ok_law_pool B cB.u;have iN:=ok_law_machine B cB.u jP.u ko.u;have kr:=ok_law_most B cB.u;have ku:=a7u B;have jO:=a5V B ku.u;have gk:=a0g B;have eh:=a4v B;have gP:=a3R B eh.u;have gv:=a5W B gP.u;have jN:=a5X B;have eW:=a1L B jN.u kP KB GB;have kX:=a8R B eW.u;have jY:=b4x B gk.u eh.u gv.u kX.u;have kY:=b7h B;have iM:=a3S B kY.u;have gZ:=a1M B;have il:=a2D B eh.u gZ.u;have jo:=a4w B il.u;have nt:=b4z B gv.u jo.u;have nq:=b4A B iM.u nt.u;have gM:=a1j B;have kW:=a8T B gM.u;have ic:=a8U B;have oN:=b7i B eW.u;have iY:=b2c B;have iQ:=a3U B kY.u nq.u kW.u ic.u oN.u iY.u;have jQ:=a5Z B;have nr:=b7j B jO.u jY.u ic.u iY.u iQ.u jQ.u;have h_:=ok_law_wholes B;have iP:=ok_law_answers B;have iO:=ok_law_is_book B h_.u iP.u;exact ok_law B cB.u iN.u kr.u jY.u nr.u iO.u F
end Prog
namespace PySem.W.Fast
def tw15150528834938600268:=0
def tw1717737284954883096:=0
def tw3053457297209851327:=0
def tw4167886504267726511:=0
def tw15553735895807510787:=0
def tw10436726090899075475:=0
def tw18388473928418200102:=0
def tw2805411759618730614:=0
def tw15695759700428454741:=0
def tw6584297398854788303:=0
def tw5784919581562735452:=0
def tw5483663055751875732:=0
def tw14381881299013658061:=0
def tw16943736365766960525:=0
def tw1394603627092158411:=0
def tw7018950070329323782:=0
def tw10271771249495987414:=0
def tw15819476677334594353:=0
def tw8454745616923980027:=0
def tw4345772314672109281:=0
def tw15956617777498667489:=0
def tw2366684930408315424:=0
def tw5138378319473487828:=0
def tw9463345674164638098:=0
def tw6220712118542136474:=0
def tw5582840292830479309:=0
def tw4736783862647223132:=0
def tw3452492267311814278:=0
def tw11793074277631602376:=0
def tw5001292202833368502:=0
def tw16810130950155528414:=0
def tw3382830069911778271:=0
def tw2440943154628322699:=0
def tw15889329115285076560:=0
def tw14929266106185352767:=0
def tw4268229275041500245:=0
def tw11922036120165607666:=0
def tw10027381464443881900:=0
def tw15916838452630722808:=0
def tw16241365583857181283:=0
def tw3206345657514006087:=0
def tw6495445706261985256:=0
def tw2961185451433986407:=0
def tw28183879650372429:=0
def tw2401937726846427260:=0
def tw12755451411433082183:=0
def tw3159242217428123777:=0
def tw2278771322349912643:=0
def tw16587659365650556016:=0
def tw10857349551002291923:=0
def tw2918746882979433136:=0
def tw14103733114498537142:=0
def tw9449115957679960088:=0
def tw16786500340559677888:=0
def tw12320555201514100134:=0
def tw17023780016733129203:=0
def tw5518879100284097466:=0
def tw5898693483933804385:=0
def tw7503723234665553558:=0
def tw17663424495038138122:=0
def tw11269320602950445569:=0
def tw259521238687216482:=0
def tw6544222387155874606:=0
def tw9423786020603470561:=0
def tw10472170582078500039:=0
def tw3383431660629020033:=0
def tw16724740722031560516:=0
def tw5402724571672105442:=0
def tw12015399503539698218:=0
def tw4519393428724029472:=0
def tw3049366912278660998:=0
def tw8975199231614606305:=0
def tw14564614150579987166:=0
def tw18011856900951310768:=0
def tw4966068918892386840:=0
def tw2207151948571869411:=0
def tw16743937184151274963:=0
def tw7264097560817890336:=0
def tw3602529706915787969:=0
def tw4311722570358831969:=0
def tw11176118244133461821:=0
def tw7097707065304696354:=0
def tw4951398111420835930:=0
def tw5781124767794505083:=0
def tw3524338082470383400:=0
def tw14705308036367092482:=0
def tw7232083051176711964:=0
def tw5691060897448999228:=0
def tw305041065172567931:=0
def tw654810232348950733:=0
def tw16034142243237578646:=0
def tw15551362173001966936:=0
def tw8954253613123022630:=0
def tw5836551865857981337:=0
def tw11042486224187848275:=0
def tw5008325418754106679:=0
def tw9057299592155833585:=0
def tw13726490011224429327:=0
def tw7417826515193925686:=0
def tw6195406199968506756:=0
def tw3484361629658732617:=0
def tw1180598506989753762:=0
def tw14187870959445780203:=0
def tw4003914451364508921:=0
def tw11999882067742680322:=0
def tw9146899379980646335:=0
def tw4811959046442359719:=0
def tw16985471634714191447:=0
def tw712105456728146716:=0
def tw7765327932278820126:=0
def tw12223962302493886747:=0
def tw3334186178772329082:=0
def tw12077717452063137052:=0
def tw3521819734306545310:=0
def tw15243598737137830010:=0
def tw14677373731469511079:=0
def tw535973021869766830:=0
def tw10929516716814439873:=0
def tw7576459956798159939:=0
def tw15728857369630288679:=0
def tw13211567284434625479:=0
def tw10928762785292758401:=0
def tw11971715130672193301:=0
def tw9877245257709228505:=0
def tw5362725372951049921:=0
def tw1977696839050897862:=0
def tw10368492176743416930:=0
def tw14186167773708170536:=0
def tw1080864025379228697:=0
def tw4495620138719599319:=0
def tw11496539844373883727:=0
def tw5741501238444418304:=0
def tw11985681726113818093:=0
def tw1677063776241414616:=0
def tw4135233810855275640:=0
def tw10454613058534584392:=0
def tw282108184302387543:=0
def tw3307038532611373969:=0
def tw3089749854367094508:=0
def tw14180807408446174989:=0
def tw4362026088207992260:=0
def tw15317833543718482464:=0
def tw17394877044563551163:=0
def tw7569515052309952016:=0
def tw11857738657871761626:=0
def tw3448007327844125245:=0
def tw3712771740194355134:=0
def tw13209867999442003193:=0
def tw4674683675912474980:=0
def tw4583565667888232042:=0
def tw15067213894472817662:=0
def tw6843247183171174101:=0
def tw9185641112071605239:=0
def tw11434611519275253199:=0
def tw14265134531418086608:=0
def tw12803428553217887399:=0
def tw4785119768485612412:=0
def tw17043089429281206247:=0
def tw16820919765950736495:=0
def tw511644154572347379:=0
def tw5974258289358666492:=0
def tw11551157568015854608:=0
def tw9753890938113231667:=0
def tw13370521593003786000:=0
def tw5470912207732919310:=0
def tw8918436411778048020:=0
def tw12774207049770108169:=0
def tw6610245152949328396:=0
def tw8335088014097144402:=0
def tw127166902649852797:=0
def tw2705465099880073155:=0
def tw16125018591468479985:=0
def tw522109000497295371:=0
def tw17195831054821068595:=0
def tw14942799357429626385:=0
def tw4623213283704566252:=0
def tw499684254509425507:=0
def tw7151085340709051092:=0
def tw47436624007711197:=0
def tw11315807394008963127:=0
def tw8350687804824541538:=0
def tw16472710610515522681:=0
def tw10452630774354224888:=0
def tw7334142246034451676:=0
def tw14496488029721445247:=0
def tw2223289552116739866:=0
def tw7302781413390003532:=0
def tw14163056717777186032:=0
def tw7102251739926567438:=0
def tw11928696094182044095:=0
def tw5093499902043638732:=0
def tw7035422133073595597:=0
def tw18181371787458153694:=0
def tw17317616581479446848:=0
def tw17402647773675444325:=0
def tw6617292678188984132:=0
def tw18207313510589049560:=0
def tw9550376071541260006:=0
def tw12908652509087398689:=0
def tw13026357526507472553:=0
def tw16097924553848782906:=0
def tw1724821161252772270:=0
def tw11677831162626960258:=0
def tw5164066717621714263:=0
def tw3535225459802011442:=0
def tw14957834874011454504:=0
end PySem.W.Fast
end
open PySem PySem.W PyProof.Rows
set_option maxRecDepth 100000 in
set_option maxHeartbeats 0 in
theorem PySem.Challenge.cw_probewell_k53_answers_of_a_book_holds : PySem.Challenge.rw_probewell_k53_answers_of_a_book.Holds := by
 w_on;o_law;k_head;(case hw=>w_witness2)
 k_fill
 refine VS.b1h (k:=8) (x:="_law_script") (m:=Prog.m_law) (l:=PySem.Challenge.rw_probewell_k53_answers_of_a_book) rfl rfl ⟨rfl,by decide,by decide⟩ (fun w h Y=>by first|exact PySem.W.kIn_of Y|exact PySem.W.km_in_of Y) (fun w=>by kernel_rfl) ?F Prog.law_true
 case F=>
  intro w mg fa h KX G hmg
  refine' Prog.c0G hmg ?b ?_
  case b=>
   constructor
   iterate 34 (refine' VS.c1O KX G ?a ?l ?c ?k;(case a=>k_is);(case l=>k_is);(case c=>k_is);(case k=>k_is))
   iterate 12 (refine' PySem.W.mg_none_of KX G ?_;k_is)
   iterate 2 (refine' VS.c3j KX G ?a;(case a=>k_is))
  kernel_rfl
