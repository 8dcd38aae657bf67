import PyProof.Rows.All
import Wide.All
import OpenK.AllK
import PySem.Challenge.RW_probewell_k56_books_refused
set_option Elab.async false
set_option linter.all false
set_option maxRecDepth 100000
set_option compiler.extract_closed false
set_option bootstrap.genMatcherCode false
noncomputable section
open Option renaming some->cz,none->xn
open Bool renaming true->yn,false->yH
open PySem.W renaming Frag->ae,nsIn->b_,kia_one->cU,kitOne->dS,kla_obj->eV,keepIn->fA,findIn->fR,fnOf->fW,hideAll->gf,mg_of->gq,CodeHd->gL,envX->jB,codeIn->mi,kas_item->mC,callWith_K->nE,methodObj->oh,kitx_list->om,kitx_dict->oq,instObj->p_,lookIn->qX,cellsFrom_some->uC,hideAll_get->yl,of_hideAll->AG,kitx_tuple->AH,specialIn->Co,plainGet->FG,OpenLaw->GS
open PySem renaming wpAny_bind->af,Value->ak,starEach->aq,Shared->au,Addr->aw,wpAny_pure->aC,model->aX,wpAny->aZ,sizeLine->bg,mainGlobals->bp,PyData->br,Program->bu,Str->bA,Around->bP,World->bV,backTo->cy,mem_of_lookup->cA,Heap->cB,eval->cD,compareOp->cH,sizeLine_eq->cY,wpAny_holding->c_,wpAny_mono->dh,keywordEach->dt,sysModules->dG,FuncData->dU,cLine->dY,attributeBase->dZ,wpAny_call_entry->et,wpAny_truthy_bool->eJ,foldedSetIterable->eK,Keyword->eO,swapsWith->eR,backToKw->eX,wpAny_Call_Name_kw->fH,bootBuiltins->fQ,Pos->fS,Obj->fV,wpAny_callSpecial?_slot->fZ,binaryOp->gc,Paired->gg,Stmt->gx,wpAny_typeNameOfWhole_keyiter->gA,codeAny_mono->gH,wpAny_specialOf->gI,wpAny_passesOwn->gJ,Scope->gK,wpAny_dictEntries->gP,codeAny->gQ,intKind->ie,wpAny_typeNameOf_keyiter->iw,behindInMarks->iy,wpAny_updateSeq->iF,wpAny_ite_split->iG,wpAny_rule->iJ,assignEach->iM,DictEntry->iP,wpAny_newObj_type->i_,ReadsAll->jc,NameKind->jd,rawInt->jy,wpAny_attempt->jF,sliceBounds->jG,wpAny_execs_nil->jW,TriplesOk->kF,builtinsNs->kJ,plainId_quiet->lJ,wpAny_isInstance->lX,codeAmong->mf,wpAny_call->mz,relabel->mB,letOwnedTupleGo->mR,wpAny_notOrdered_dict->ng,Env->nQ,updateSeq->oD,callerA->oI,PassesOwn->oJ,BindsTo->oK,Arguments->oM,wpAny_standAt->pj,numAt->pB,closureFor->pY,assign->pZ,wpAny_typeOf->qC,getItem->qU,bindArgs->qW,ItemsOf->rd,wpAny_letGo->su,subscripted->sv,wpAny_dictEpoch->tx,codeAny_builtin->uA,wpAny_seqItems->vq,pyNext->vA,dictSetDefault->xj,wpAny_comprehension_free->yt,Sem->AD,call->AF,lastMarks->Bd,bindL->Cj,bindC->Ck,wpAny_Call_method_late->CB,isTrue->Di,dictGet->Fu,Fin->FI,wpAny_isOneOf_keyiter->FT
open List renaming getElem?_eq_getElem->ag,getD_eq_getElem?_getD->ah,mem_append_right->ai,length_map->aj,mem_append_left->ao,mem_singleton->ar,mem_append->av,mem_cons_of_mem->ax,map_cons->ay,length_append->az,range->aB,mem_cons->aG,mem_map->aJ,mem_cons_self->aN,getElem?_eq_some_iff->aO,replicate->aP,map_append->aQ,append_assoc->aV,length_cons->aY,getElem?_map->a_,append_nil->bj,size_toArray->bt,mem_of_getElem?->bw,map_map->bD,length_range->bE,getElem?_set_ne->bF,cons_append->bG,nodup_nil->bH,map_congr_left->bK,nil_append->bM,length_singleton->bN,mem_range->bO,nodup_append->bR,count_append->bW,nodup_cons->bY,idxOf_lt_length_iff->bZ,map_singleton->cw,mem_flatMap->cO,getElem?_append_right->cQ,map_nil->cW,mem_iff_getElem?->cZ,mem_map_of_mem->de,zip_cons_cons->dq,getElem_mem->dB,getElem_map->dC,pairwise_singleton->dF,pairwise_append->dI,mem_filterMap->dJ,getElem?_set_self->dM,all_eq_true->dN,getElem?_append_left->dO,drop_eq_getElem_cons->dP,getElem_idxOf->dX,length_take->d_,length->eh,any_eq_false->eA,getD_cons_succ->eB,flatMap_append->eD,nodup_iff_count->eQ,count_pos_iff->fB,flatMap_cons->fL,getElem?_range->fP,lookup_cons->fT,set_cons_succ->fX,length_nil->gi,count_cons->gj,length_replicate->gy,foldl_append->gF,replicate_zero->gX,filterMap_cons->gY,pairwise_cons->ik,length_eq_zero_iff->ir,getElem?_inj->iB,take_append_drop->iO,length_drop->iV,flatMap_nil->iW,ext_getElem->iX,drop_length->iY,mem_iff_getElem->je,range_succ->jo,of_mem_zip->jq,mem_filter->jr,find?_cons->jt,replicate_succ->jw,count_eq_zero->jQ,extract_eq_take_drop->jY,reverse_cons->kh,idxOf_append->ki,ext_getElem?->kj,sublist_append_left->kz,getElem?_take_of_lt->kA,getElem?_eq_none->lN,getD_cons_zero->mL,zip_nil_right->nG,set_cons_zero->nH,getElem_range->nI,find?_eq_none->nJ,zip_nil_left->oy,take_length->oY,any_eq_true->oZ,drop_append_of_le_length->pN,take_range->qf,length_zip->qg,forIn_cons->qm,perm_append_singleton->qZ,forIn_nil->q_,sublist_append_right->ro,pairwise_iff_getElem->rq,getElem?_zip_eq_some->rz,set_comm->sk,tail->tj,getElem?_replicate->tm,take_of_length_le->uG,range_succ_eq_map->uH,pairwise_lt_range->uI,map_id'->uJ,pairwise_reverse->vn,contains_iff_mem->vo,count_cons_self->xu,toList_toArray->ym,map_eq_nil_iff->yo,filterMap_map->AJ,take_add_one->Cr,pairwise_map->Cs,getElem_drop->Ct,map_flatMap->FL,countP_cons->FN,length_set->GU,foldl_cons->GV,countP_map->GW
open Nat renaming le_refl->aA,lt_of_lt_of_le->bb,ne_of_lt->bI,zero_le->cG,le_trans->cR,lt_irrefl->dA,lt_or_ge->dD,le_of_lt->fg,add_assoc->gr,lt_of_le_of_lt->ij,zero_add->iA,ne_of_gt->jC,lt_trans->jD,add_comm->jE,sub_self->lg,min_le_left->lA,min_eq_left->lC,mul_le_mul_left->mK,le_succ_of_le->ox,mul_le_mul->qY,mul_succ->uD,min_self->uE,pow_le_pow_right->xr,le_succ->xt,lt_succ_self->FK
open Bool renaming and_eq_true->aD,false_eq_true->bz,false_ne_true->cj,and_self->eN,eq_false_iff->eU,and_true->gu,beq_eq_decide_eq->gz,not_true->ic,or_eq_true->lG,true_and->m_
open PySem.Heap renaming get?_push_of_some->aF,lt_size->aS,get?_push_size->bo,get?_update_self->cS,get?_update_other->dQ,SameBut->kB,FlyingW->kC
open PySem.PyData renaming eqv->aI,int->aR,canLayAll0->bh,eqvAll->bT,list->cF,bool->cK,depthAll->cX,canLay0->dm,tuple->dw,depth->eL,none->h_
open Option.some renaming inj->aK,injEq->ou
open Array renaming length_toList->aT,getElem?_eq_getElem->bC,getElem?_toList->bU,getElem_toList->bX,toList_push->cm,getElem_extract->dR,getD_eq_getD_getElem?->fm,perm_iff_toList_perm->fD,getElem?_eq_none->fY,toList_extract->gM,mem_toList_iff->gN,ext'->il,append_empty->ip,append_assoc->iq,forIn_toList->jT,getElem_mem_toList->kE,toList_reverse->mv,toList_append->mQ,size_extract->nK,push_eq_append_singleton->pf,getElem?_eq_some_iff->rg,toArray_toList->xy,getD->AL
open PyProof.Rows renaming wpS_bind->aU,arrOf->ba,wpS_pure->be,Keyed->bQ,pendingOf->cC,SortSt->dg,wpS_forRange->dE,SortKind->eY,wpS_mono->fM,failedOf->fN,callWith_type1->gE,seqObj->iH,envOfC->ju,AllBare->jV,IntsAre->ml,wpS_modify->mw,wpS_get->nc,mirror->nL,wpS->tw,listUpdate_at->tG
open PySem.Value renaming none->bx,ref->bL,type->fK,int->jA,isInt->jO,bool->mJ,str->sd
open PySem.PassesOwn renaming never->bJ
open Int renaming toNat_natCast->bS,emod_lt_of_pos->eM,emod_nonneg->fF,toNat_of_nonneg->mM,natCast_mul->qo,le_refl->xw
open PySem.Obj renaming mapSeq->cu,isFreed_of_dict->kg,data_mapDictKeys->ow,data_mapDict->sj
open False renaming elim->cx
open PySem.Str renaming ofString->cI
open PyProof.Rows.KeyOrd renaming kle_of_klt->cM,kle_trans->df,kle_refl->eF,klt_of_klt_of_kle->fx
open PySem.Builtin.List renaming listExtendWith->cP,listLengthHint->gR,listSameRef->iE,listItems->jf,listTooLong->lQ,listUpdate->Cv
open Ne renaming symm->cV
open Or renaming inl->dW,inr->gW
open PySem.Builtin.Tuple renaming tupleHashOf->eP
open PySem.F renaming plainAttrs_list->eS,slot_dict_keyiterator_next->fw,plain_extend_loop->km,type_list_append->kr,slot_list_append->ku,slot_tuple_hash->lE,type_list_extend->sf,slot_list_extend->sg,slot_dict_values->si,args_dict_keyiterator_next_1->sr,slot_list_count->sX,plain_list_iadd->sY,plainAttrs_dict->sZ,attr_ValueError->s_,entry_dict_keyiterator_next->tu,slot_dict_len->uK,type_dict_get->vk,slot_dict_get->vm,typeOf_object_class->GX
open Option renaming map_eq_some_iff->e_,bind_some->fq,isSome_iff_exists->fO,map_some->qd,map->AI,getD_none->FJ
open PySem.Heap.SameBut renaming update->fC
open PySem.NameKind renaming free->fE
open ForInStep renaming yield->fG
open List.cons renaming injEq->gk,inj->so
open PySem.Paired renaming length->gO
open List.Sublist renaming refl->iC,append->yp
open True renaming intro->jP
open List.Perm renaming refl->jR,append_left->lP
open PySem.Calls renaming evalArgs_plain->jS,callWith_builtin->mP,Name_function_global->xx
open List.Pairwise renaming nil->kl
open Sum renaming inr->oe,inl->og
open PySem.SeqAt.ReadsAll renaming length->pM
open PySem.SeqAt renaming eqAt_reads->se
open PySem.Builtin.Dict_items renaming ownsTuple->uL
open PySem.W.Looks renaming ld->FH
open PySem.Builtin.Dict renaming showsAll->GY
open Array.Perm renaming refl->GZ
def aE:=@if_pos
def aL:=@decide_eq_true
def aM:=@if_neg
def aW:=@decide_eq_false
def bB:=@of_decide_eq_true
def du:=@if_false
def dH:=@congrArg
def gS:=@beq_eq_false_iff_ne
def jH:=@of_decide_eq_false
def ny:=@beq_iff_eq
def qx:=@if_true
def Ci:=@decide_eq_true_eq
def FD:=@beq_self_eq_true
def ZZ(h:True:=by first|exact .inl rfl|exact .inr rfl|assumption):True:=h
def ZY(h:True:=by first|exact⟨.inl rfl,by decide,by decide⟩|exact⟨.inr (.inl rfl),by decide,by decide⟩|exact⟨.inr (.inr rfl),by decide,by decide⟩):True:=h
def ZX(h:True:=by first|exact dW rfl|exact gW rfl):True:=h
def ZW(h:True:=by first|exact .inl rfl|exact .inr rfl):True:=h
open PySem
namespace L2
open PySem.Spec PyProof.Rows
abbrev Key:=Sum Int bA
def b8l:Key->ak->Bool
  |.inl k,v=>jO k v
  |.inr x,v=>ak.isStrOf x v
def c2W(w:bV):Key->Int
  |.inl k=>hashInt k
  |.inr x=>hashStr w x
def t8:∀{k:Key} {v:ak},b8l k v=yn->(∃i t,k=og i/\v=jA i t)\/(∃x t,k=oe x/\v=sd x t)
  |.inl i,v,h=>by
    obtain⟨t,e⟩:=ak.isInt_shape (k:=i) (v:=v) h;exact .inl ⟨i,t,rfl,e⟩
  |.inr x,v,h=>by
    obtain⟨t,e⟩:=ak.isStrOf_shape (x:=x) (v:=v) h;exact .inr ⟨x,t,rfl,e⟩
def b8D(a b:Int):decide ((og a:Key)=og b)=(a==b):=by
  by_cases e:a=b
  . subst e;simp
  . have h:¬ (og a:Key)=og b:=λq=>e (og.inj q)
    rw[aW h];exact (gS.mpr e).symm
def b8E(a b:bA):decide ((oe a:Key)=oe b)=decide (a=b):=by
  by_cases e:a=b
  . subst e;simp
  . have h:¬ (oe a:Key)=oe b:=λq=>e (oe.inj q)
    rw[aW h,aW e]
def b8F(a:Int)(b:bA):decide ((og a:Key)=oe b)=yH:=aW (λq=>nomatch q)
def b8G(a:bA)(b:Int):decide ((oe a:Key)=og b)=yH:=aW (λq=>nomatch q)
def a5M(prog:bu)(w:bV):PySem.KeyKind prog w Key where
  is:=b8l
  hash:=c2W w
  inj:=λv a b ha hb=>by
    rcases t8 ha with⟨i,t,rfl,rfl⟩|⟨x,t,rfl,rfl⟩
    . rcases t8 hb with⟨j,u,rfl,e⟩|⟨y,u,rfl,e⟩
      . injection e with e1 _;rw[e1]
      . exact nomatch e
    . rcases t8 hb with⟨j,u,rfl,e⟩|⟨y,u,rfl,e⟩
      . exact nomatch e
      . injection e with e1 _;rw[e1]
  byValue:=λk v h=>by
    rcases t8 h with⟨i,t,rfl,rfl⟩|⟨x,t,rfl,rfl⟩<;>rfl
  pyHash:=λhv h=>by
    rcases t8 hv with⟨i,t,rfl,rfl⟩|⟨x,t,rfl,rfl⟩
    . exact wpAny_pyHash_int h
    . exact wpAny_pyHash_str h
  eqBool:=λhu hv h=>by
    rcases t8 hu with⟨i,t,rfl,rfl⟩|⟨x,t,rfl,rfl⟩
    . rcases t8 hv with⟨j,u,rfl,rfl⟩|⟨y,u,rfl,rfl⟩
      . rw[b8D]at h;exact wpAny_eqBool_int h
      . rw[b8F]at h;exact SeqAt.EqAt.int_str i t y u _ _ _ _ h
    . rcases t8 hv with⟨j,u,rfl,rfl⟩|⟨y,u,rfl,rfl⟩
      . rw[b8G]at h;exact SeqAt.EqAt.str_int x t j u _ _ _ _ h
      . rw[b8E]at h;exact wpAny_eqBool_str h
  «strs»:=λk x t v h=>by
    rcases t8 h with⟨i,u,rfl,e⟩|⟨y,u,rfl,e⟩
    . exact nomatch e
    . injection e with e1 _
      subst e1;cases v<;>rfl
inductive V where
  |non|bl (b:Bool)|int (i:Int)|str (x:bA)|byt (b:Array UInt8)|flt (b:UInt64)|ref (a:aw)|ty (n:String)
  deriving DecidableEq
def RelV:V->ak->Prop
  |.non,u=>u=bx
  |.bl b,u=>u=mJ b
  |.int i,u=>∃t,u=jA i t
  |.str x,u=>∃t,u=sd x t
  |.byt b,u=>∃t,u=ak.bytes b t
  |.flt b,u=>∃t,u=ak.float b t
  |.ref a,u=>u=bL a
  |.ty n,u=>u=fK n
abbrev Vals:List V->List ak->Prop:=gg RelV
theorem Vals.length{xs:List V}{us:List ak}(r:Vals xs us):xs.length=us.length:=gO r
theorem Vals.get:∀{xs:List V} {us:List ak} {i:Nat} {x:V},Vals xs us->xs[i]?=cz x->∃u,us[i]?=cz u/\RelV x u
  |_,_,_,_,.nil,e=>by simp at e
  |_,_,0,_,.cons r _,e=>by simp at e;subst e;exact⟨_,rfl,r⟩
  |_,_,i+1,x,.cons _ t,e=>by
    obtain⟨u,h1,h2⟩:=Vals.get (i:=i) (x:=x) t (by simpa using e);exact⟨u,by simpa using h1,h2⟩
theorem Vals.append:∀{xs ys:List V} {us ws:List ak},Vals xs us->Vals ys ws->Vals (xs++ys) (us++ws)
  |_,_,_,_,.nil,s=>s
  |_,_,_,_,.cons r t,s=>.cons r (Vals.append t s)
theorem Vals.take:∀{xs:List V} {us:List ak} (n:Nat),Vals xs us->Vals (xs.take n) (us.take n)
  |_,_,0,_=>.nil
  |_,_,_+1,.nil=>.nil
  |_,_,n+1,.cons r t=>.cons r (Vals.take n t)
theorem Vals.drop:∀{xs:List V} {us:List ak} (n:Nat),Vals xs us->Vals (xs.drop n) (us.drop n)
  |_,_,0,r=>r
  |_,_,_+1,.nil=>.nil
  |_,_,n+1,.cons _ t=>Vals.drop n t
def b8H:Option V->Option ak->Prop
  |some v,cz u=>RelV v u
  |none,xn=>True
  |_,_=>False
def KV{κ:Type}:List (κ×V)->List (κ×ak)->Prop:=gg λ(p:κ×V) (q:κ×ak)=>p.1=q.1/\RelV p.2 q.2
def kV:Key->V
  |.inl i=>.int i
  |.inr x=>.str x
inductive HO where
  |lst (xs:List V)
  |tup (xs:List V)
  |dK (kvs:List (Key×V))|dT (kvs:List (List Key×V))
  |set (S:Int->Bool) (n:Nat)
  |ins (C dx:aw) (fs:List (bA×V))
  |own (x:aw)
  |xd (fs:List (bA×V))
  |met (f x:aw)
  |rng (lo hi:Int)
  |frz (o:fV) (u:HO)
  |tbl (ps:Array ak)
  |ext (φ:cB->Prop)
abbrev Hp:=aw->Option HO
def upd(H:Hp)(a:aw)(o:HO):Hp:=λb=>if b=a then cz o else H b
def i6{H:Hp}{a:aw}{o:HO}:upd H a o a=cz o:=by unfold upd;rw[aE rfl]
def c9{H:Hp}{a b:aw}{o:HO}(h:b≠a):upd H a o b=H b:=by unfold upd;rw[aM h]
def b5Z:upd (upd H a o) a u=upd H a u:=by
  funext b;unfold upd;split<;>rfl
def j6{H:Hp}{a b:aw}{o:HO}(h:H a=cz o)(h':H b=xn):a≠b:=by
  intro e;subst e;rw[h]at h';cases h'
def Pin(a:aw):HO->Prop
  |.tup _=>True
  |.frz _ (.own b)=>b=a
  |_=>False
abbrev c1f(a:aw):={u:HO // Pin a u}
def a4U(H:Hp)(h:cB)(a:aw)(qs:Array ak):Prop:=
  ∃ps:Array ak,h.get? a=cz {cls:=.none,data:=.fields ps}/\kF ps.toList/\∀(pos:fS) (cv:ak),mf pos ps.toList=cz cv->
    ∃c' oc vs q t t',cv=.ref c'/\H c'=cz (.frz oc (.own a))/\oc.data=.fields vs/\vs[1]?=cz (.str q t)/\qs[0]?=cz (.str q t')
section
variable (P:bu)(w:bV)
def ObjOk(H:Hp)(h:cB)(a:aw):HO->Prop
  |.lst xs=>xs.length<=bg/\∃(its:List ak) (n:Nat),Vals xs its/\h.get? a=cz {cls:=.type "list",data:=.seq its.toArray n}
  |.tup xs=>xs.length<=bg/\∃its:List ak,Vals xs its/\IsTup h a its.toArray
  |.dK kvs=>kvs.length<=bg/\(a==dG)=yH/\∃vs,KV kvs vs/\h.DictOf (a5M P w) a vs
  |.dT kvs=>kvs.length<=bg/\(a==dG)=yH/\∃xs:List (List Key×aw×ak),
      gg (λ(p:List Key×V) (q:List Key×aw×ak)=>p.1=q.1/\H q.2.1=cz (.tup (p.1.map kV))/\RelV p.2 q.2.2) kvs xs/\
      ∃o es ep,h.get? a=cz o/\o.ExactDict/\o.data=.dict es ep/\es.toList=xs.map (entryOfKey (tupleKind (a5M P w)))/\(xs.map (·.1)).Nodup
  |.set S n=>h.SetOf (ie P w) a S n
  |.ins C dx fs=>H dx=cz (.own a)/\fs.length<=1000/\dx≠a/\h.get? a=cz (p_ C dx)/\
      ∃mA,h.Ns1 dx mA/\(∀f,b8H (fs.lookup f) (mA f))/\PySem.Within mA (fs.map (·.1))
  |.own _=>∃o,h.get? a=cz o
  |.xd fs=>∃mA,h.Ns1 a mA/\∀f,b8H (fs.lookup f) (mA f)
  |.rng lo hi=>∃t u v,h.get? a=cz {cls:=.type "range",data:=.fields #[.int lo t,.int hi u,.int 1 v]}
  |.frz o u=>h.get? a=cz o/\ObjOk H h a u
  |.tbl ps=>a4U H h a ps
  |.met f x=>h.get? a=cz (oh (.ref f) (.ref x))
  |.ext φ=>φ h/\(∃o,h.get? a=cz o)/\∀h1 h2:cB,φ h1->(∀o,h1.get? a=cz o->h2.get? a=cz o)->φ h2
def HOk(H:Hp)(h:cB):Prop:=∀a o,H a=cz o->ObjOk P w H h a o
end
section
variable {P:bu}{w:bV}{H H':Hp}{h h':cB}{a:aw}{o:HO}
theorem ObjOk.lt(x:ObjOk P w H h a o):a<h.objs.size:=by
  cases o with
  |lst xs=>obtain⟨_,_,_,_,e⟩:=x;exact aS e
  |tup xs=>obtain⟨_,_,_,p⟩:=x;exact p.lt
  |dK kvs=>obtain⟨_,_,_,_,o,_,_,e,_⟩:=x;exact aS e
  |dT kvs=>obtain⟨_,_,_,_,o,_,_,e,_⟩:=x;exact aS e
  |set S n=>obtain⟨o,_,_,_,e,_⟩:=x;exact aS e
  |ins C dx fs=>obtain⟨_,_,_,e,_⟩:=x;exact aS e
  |own y=>obtain⟨_,e⟩:=x;exact aS e
  |xd fs=>obtain⟨_,⟨_,_,_,e,_⟩,_⟩:=x;exact aS e
  |rng lo hi=>obtain⟨_,_,_,e⟩:=x;exact aS e
  |frz ob u=>obtain⟨e,_⟩:=x;exact aS e
  |tbl ps=>obtain⟨_,e,_⟩:=(show a4U H h a ps from x);exact aS e
  |met f y=>exact aS (show h.get? a=cz _ from x)
  |ext φ=>obtain⟨_,⟨_,e⟩,_⟩:=x;exact aS e
theorem Paired.mapP:∀{l₁:List α} {l₂:List β},gg F l₁ l₂->(∀a b,F a b->G a b)->gg G l₁ l₂
  |_,_,.nil,_=>.nil
  |_,_,.cons r t,f=>.cons (f _ _ r) (Paired.mapP t f)
def ObjOk.stay(x:ObjOk P w H h a o)(k:∀b u,(b=a\/H b=cz (.own a))->h.get? b=cz u->h'.get? b=cz u)
    (ho:∀b,H b=cz (.own a)->H' b=cz (.own a)) (ht:∀b (u:c1f a),H b=cz u.1->H' b=cz u.1):ObjOk P w H' h' a o:=by
  induction o with
  |lst xs=>obtain⟨z,its,n,r,e⟩:=x;exact⟨z,its,n,r,k _ _ (.inl rfl) e⟩
  |tup xs=>obtain⟨z,its,r,ob,e,c⟩:=x;exact⟨z,its,r,ob,k _ _ (.inl rfl) e,c⟩
  |dK kvs=>obtain⟨z,y,vs,r,ob,es,ep,e,c⟩:=x;exact⟨z,y,vs,r,ob,es,ep,k _ _ (.inl rfl) e,c⟩
  |dT kvs=>
    obtain⟨z,y,xs,r,ob,es,ep,e,c⟩:=x;exact⟨z,y,xs,Paired.mapP r λp q z=>⟨z.1,ht _ ⟨.tup _,trivial⟩ z.2.1,z.2.2⟩,ob,es,ep,k _ _ (.inl rfl) e,c⟩
  |set S n=>obtain⟨ob,es,ep,t,e,c⟩:=x;exact⟨ob,es,ep,t,k _ _ (.inl rfl) e,c⟩
  |ins C dx fs=>
    obtain⟨d,z,ne,e,mA,⟨od,es,ep,e2,c⟩,r⟩:=x;exact⟨ho _ d,z,ne,k _ _ (.inl rfl) e,mA,⟨od,es,ep,k _ _ (.inr d) e2,c⟩,r⟩
  |own y=>obtain⟨ob,e⟩:=x;exact⟨ob,k _ _ (.inl rfl) e⟩
  |xd fs=>obtain⟨mA,⟨od,es,ep,e,c⟩,r⟩:=x;exact⟨mA,⟨od,es,ep,k _ _ (.inl rfl) e,c⟩,r⟩
  |rng lo hi=>obtain⟨t,u,v,e⟩:=x;exact⟨t,u,v,k _ _ (.inl rfl) e⟩
  |frz ob u ih=>obtain⟨e,q⟩:=x;exact⟨k _ _ (.inl rfl) e,ih q⟩
  |tbl ps=>
    obtain⟨qs,e,t,f⟩:=(show a4U H h a ps from x);refine⟨qs,k a _ (.inl rfl) e,t,λpos cv z=>?_⟩;obtain⟨c,oc,vs,q,t1,t2,z1,z2,z3,z4,z5⟩:=f pos cv z;exact⟨c,oc,vs,q,t1,t2,z1,ht c ⟨.frz _ (.own a),rfl⟩ z2,z3,z4,z5⟩
  |met f y=>
    have e:h.get? a=cz (oh (.ref f) (.ref y)):=x;show h'.get? a=cz (oh (.ref f) (.ref y));exact k a _ (.inl rfl) e
  |ext φ=>obtain⟨p,⟨o,e⟩,st⟩:=x;exact⟨st _ _ p λo q=>k _ _ (.inl rfl) q,⟨o,k _ _ (.inl rfl) e⟩,st⟩
theorem HOk.lt(x:HOk P w H h)(e:H a=cz o):a<h.objs.size:=(x a o e).lt
def HOk.fresh(x:HOk P w H h)(e:h.objs.size<=a):H a=xn:=by
  cases q:H a with
  |none=>rfl
  |some u=>exact absurd (bb (x.lt q) e) (dA _)
def HOk.kept(x:HOk P w H h)(k:∀b u,h.get? b=cz u->h'.get? b=cz u):HOk P w H h':=λa o e=>
  (x a o e).stay (λb u _ q=>k b u q) (λ_ q=>q) λ_ _ q=>q
def HOk.laid(x:HOk P w H h)(k:∀b u,h.get? b=cz u->h'.get? b=cz u)(hp:h.objs.size<=a)(new:ObjOk P w (upd H a o) h' a o):HOk P w (upd H a o) h':=λb u e=>by
  have hn:=x.fresh hp;by_cases hb:b=a
  . subst hb;rw[i6]at e;cases e;exact new
  . rw[c9 hb]at e
    exact (x b u e).stay (λc v _ q=>k c v q) (λc q=>by rw[c9 (j6 q hn)];exact q) λc xs q=>by rw[c9 (j6 q hn)];exact q
end
def Rd(H:Hp)(a:aw)(u:HO):Prop:=H a=cz u\/∃o,H a=cz (.frz o u)
def Rd.ok{P:bu}{w:bV}{H:Hp}{h:cB}{a:aw}{u:HO}(r:Rd H a u)(x:HOk P w H h):ObjOk P w H h a u:=by
  rcases r with r|⟨o,r⟩
  . exact x a u r
  . obtain⟨_,q⟩:=x a _ r
    exact q
def Mut:Option HO->Prop
  |some (.lst _)=>True
  |some (.dK _)=>True
  |some (.dT _)=>True
  |some (.set _ _)=>True
  |some (.ins _ _ _)=>True
  |some (.ext _)=>True
  |_=>False
section
variable {P:bu}{w:bV}{H:Hp}{h h':cB}{x e:aw}{o':HO}
def HOk.write(ok:HOk P w H h)(mu:Mut (H x))(he:e=x\/H e=cz (.own x))(k:∀b u,b≠e->h.get? b=cz u->h'.get? b=cz u)(uX:∃u,h'.get? e=cz u)
    (new:ObjOk P w (upd H x o') h' x o'):HOk P w (upd H x o') h':=λb u q=>by
  have vD:∀c y,H c=cz (.own y)->c≠x:=λc y r z=>by subst z;rw[r]at mu;exact mu
  have yG:∀{bq:aw} c (u:c1f bq),H c=cz u.1->c≠x:=λ{bq} c u r z=>by subst z;rw[r]at mu;obtain⟨u,hu⟩:=u;cases u<;>first|exact hu|exact mu
  by_cases hb:b=x
  . subst hb;rw[i6]at q;cases q;exact new
  . rw[c9 hb]at q
    by_cases uq:b=e
    . have q':H b=cz (.own x):=by
        rcases he with z|z
        . exact absurd (uq.trans z) hb
        . rw[uq];exact z
      rw[q]at q';cases q';obtain⟨v,hv⟩:=uX;exact⟨v,by rw[uq];exact hv⟩
    . refine (ok b u q).stay (λc v hc r=>k c v ?_ r) (λc r=>by rw[c9 (vD c b r)];exact r) λc xs r=>by rw[c9 (yG c xs r)];exact r
      rcases hc with rfl|hc
      . exact uq
      . rintro rfl
        rcases he with z|z
        . exact vD c b hc z
        . rw[hc]at z;cases z;exact hb rfl
end
structure Un (fs ex:List aw) (H H':Hp) (h h':cB):Prop where
  keep:∀b o,h.get? b=cz o->H b=xn->b∉fs->b∉ex->h'.get? b=cz o
  slot:∀b o,h.get? b=cz o->H b=xn->b∈fs->b∉ex->∃sl,h'.get? b=cz {o with slots:=sl}
  free:∀b o,h.get? b=cz o->H b=xn->b∉ex->H' b=xn
  there:∀b o,h.get? b=cz o->b∉ex->∃o',h'.get? b=cz o'
  tups:∀b xs,H b=cz (.tup xs)->H' b=cz (.tup xs)
  frzs:∀b o u,H b=cz (.frz o u)->H' b=cz (.frz o u)
  tbls:∀b ps,H b=cz (.tbl ps)->∃more,H' b=cz (.tbl (ps++more))
section
variable {fs jK ex GI:List aw}{H H1 H2:Hp}{h h1 h2 h':cB}{a x e:aw}{o:HO}
def Un.any(u:Un fs ex H H1 h h1)(q:h.get? b=cz ob)(n:H b=xn)(hx:b∉ex):∃sl,h1.get? b=cz {ob with slots:=sl}:=by
  by_cases hb:b∈fs
  . exact u.slot b ob q n hb hx
  . exact⟨ob.slots,u.keep b ob q n hb hx⟩
def Un.kept(k:∀b u,h.get? b=cz u->h'.get? b=cz u):Un fs ex H H h h':=
  ⟨λb ob q _ _ _=>k b ob q,λb ob q _ _ _=>⟨ob.slots,k b ob q⟩,λ_ _ _ n _=>n,λb ob q _=>⟨ob,k b ob q⟩,λ_ _ q=>q,λ_ _ _ q=>q,λ_ ps q=>⟨#[],by rw[q];simp⟩⟩
def Un.refl:Un fs ex H H h h:=Un.kept λ_ _ q=>q
def Un.laid(k:∀b u,h.get? b=cz u->h'.get? b=cz u)(hp:h.objs.size<=a)(hn:H a=xn):Un fs ex H (upd H a o) h h' where
  keep:=λb u q _ _ _=>k b u q
  slot:=λb u q _ _ _=>⟨u.slots,k b u q⟩
  free:=λb u q n _=>by rw[c9 (bI (bb (aS q) hp))];exact n
  there:=λb u q _=>⟨u,k b u q⟩
  tups:=λb xs q=>by rw[c9 (j6 q hn)];exact q
  frzs:=λb u xs q=>by rw[c9 (j6 q hn)];exact q
  tbls:=λb ps q=>⟨#[],by rw[c9 (j6 q hn),q];simp⟩
def Un.write(mu:Mut (H x))(he:e=x\/H e=cz (.own x))(k:∀b u,b≠e->h.get? b=cz u->h'.get? b=cz u)(uX:∃u,h'.get? e=cz u):Un fs ex H (upd H x o) h h':=by
  have hx:∀b,H b=xn->b≠x:=λb n z=>by subst z;rw[n]at mu;exact mu
  have hb:∀b,H b=xn->b≠e:=λb n z=>by
    subst z;rcases he with r|r
    . exact hx b n r
    . rw[n]at r;cases r
  have hm:∀b u,H b=cz u->¬ Mut (cz u)->b≠x:=λb u q nm z=>by subst z;rw[q]at mu;exact nm mu
  refine⟨λb u q n _ _=>k b u (hb b n) q,λb u q n _ _=>⟨u.slots,k b u (hb b n) q⟩,λb u q n _=>by rw[c9 (hx b n)];exact n,λb u q _=>?_,
    λb xs q=>by rw[c9 (hm b _ q λz=>z)];exact q,λb u xs q=>by rw[c9 (hm b _ q λz=>z)];exact q,λb ps q=>⟨#[],by rw[c9 (hm b _ q λz=>z),q];simp⟩⟩
  by_cases uq:b=e
  . subst uq;exact uX
  . exact⟨u,k b u uq q⟩
end
def trk(h:cB)(H:Hp):List aw:=(aB h.objs.size).filter λa=>(H a).isSome
def a5N(h:cB)(H:Hp):cB:=gf h (trk h H)
def b1b(h:cB)(H:Hp):(a5N h H).objs.size=h.objs.size:=PySem.W.hideAll_size _ _
def b2R{h:cB}(e:h.get? b=cz o)(n:H b=xn):(a5N h H).get? b=cz o:=
  yl _ e λhm=>by
    have q:(H b).isSome=yn:=(jr.mp hm).2;rw[n]at q;simp at q
def b6a(e:(a5N h H).get? b=cz o):h.get? b=cz o/\H b=xn:=by
  have e':h.get? b=cz o:=AG (trk h H) e;refine⟨e',?_⟩;cases q:H b with
  |none=>rfl
  |some x=>
    have hm:b∈trk h H:=jr.mpr ⟨bO.mpr (aS e'),by simp[q]⟩;have z:(a5N h H).get? b=xn:=PySem.W.hideAll_none (trk h H) hm;rw[z]at e;cases e
def b6b(g h:cB)(L:aw):List (aw×fV):=(aB h.objs.size).filterMap λa=>if a=L\/(g.get? a).isSome=yn then xn else (h.get? a).map λo=>(a,o)
def rest(g h:cB)(L d:aw):List (aw×fV):=(b6b g h L).filter λp=>decide (p.1≠d)
def O0:List bA:=["ways_by_state","joins_by_pair","compare","first_gathering","least_asks"]
def W6(x:bA):bA:=x++".<locals>." ++ "<lambda>"
def a5O(K:ae)(cd:ak):Option aw:=match cd with
  |.ref c=>(match K.lookup c with
    |some ⟨.type n,_,.fields vs,_⟩=>if n=="code" then
        (match (vs[11]?:Option ak),(vs[18]?:Option ak),(vs[7]?:Option ak),(vs[9]?:Option ak),(vs[10]?:Option ak) with
        |some (.ref P),cz (.str _ _),cz (.int _ _),cz (.bool _),cz (.int _ _)=>if c !=P then cz P else xn
        |_,_,_,_,_=>xn) else xn
    |_=>xn)
  |_=>xn
def C4(K:ae)(x:bA):Option aw:=match b_ K bp x with
  |some (cz (.ref f))=>(match K.lookup f with
    |some ⟨_,_,.func fd,_⟩=>a5O K fd.code
    |_=>xn)
  |_=>xn
def TabsIn(K:ae)(H:Hp):Prop:=∀x∈O0,∀p,C4 K x=cz p->∃qs t,H p=cz (.tbl qs)/\qs[0]?=cz (.str (W6 x) t)
def TabsIn.un{K:ae}{fs ex:List aw}{H H':Hp}{h h':cB}(a:TabsIn K H)(u:Un fs ex H H' h h'):TabsIn K H':=λx hx p e=>by
  obtain⟨qs,t,e1,e2⟩:=a x hx p e;obtain⟨more,e3⟩:=u.tbls p qs e1;refine⟨_,t,e3,?_⟩;have hz:0<qs.size:=by
    rcases dD 0 qs.size with z|z
    . exact z
    . rw[fY (by omega)]at e2;cases e2
  rw[Array.getElem?_append_left hz];exact e2
structure Mod (K:ae) (mg:bA->Option ak) (base:cB):Prop where
  kin:K.In base
  glob:base.Ns bp mg
  blt:∃mb,base.Ns kJ mb/\∀x:bA,x≠"__name__"->mb x=fQ x
  nolimit:base.NoLimit
  bmain:∃bm ob,mg "__builtins__"=cz (.ref bm)/\bm≠kJ/\base.get? bm=cz ob/\ob.cls=.type "module"/\ob.dict=cz kJ/\ob.data=.plain
structure Cx where
  prog:bu
  w:bV
  K:ae
  mg:bA->Option ak
  base:cB
  A:bP
  N:List bA
  s₀:au
  H₀:Hp
  env:nQ
  outer:List nQ
  stack:List nQ
  ex:List aw
  fn:bA->Bool
  calm:Bool
  pn:List (aw×fV)
  xe:ak->au->Prop
def frs(l:List nQ):List aw:=l.filterMap (·.frame)
abbrev Cx.fs(X:Cx):List aw:=frs X.outer
def Vis(sc:gK)(x:bA):Prop:=sc.names.lookup x=cz .local\/sc.names.lookup x=cz .cell\/sc.names.lookup x=cz .free
abbrev NmV(X:Cx)(x:bA):Prop:=Vis X.env.scope x/\(x==("__debug__":bA))=yH/\(x==("__classdict__":bA))=yH
def Loc(sc:gK)(x:bA):Prop:=sc.names.lookup x=cz .local\/sc.names.lookup x=cz .cell
def Look(env:nQ)(h:cB)(m:bA->Option ak)(x:bA)(u:ak):Prop:=
  (env.kindOf x=cz .local/\m x=cz u)\/((env.kindOf x=cz .cell\/env.kindOf x=cz .free)/\∃c,env.cells.lookup x=cz c/\h.IsCell c (cz u))
structure Cx.Ok (X:Cx):Prop where
  mod:Mod X.K X.mg X.base
  kind:X.env.scope.kind=.function
  glob:X.env.globals=bp
  blt:X.env.builtins=kJ
  above:X.s₀.heap.objs.size<=X.env.locals
  inj:∀x y c,X.env.cells.lookup x=cz c->X.env.cells.lookup y=cz c->x=y
  has:∀x,(X.env.kindOf x=cz .cell\/X.env.kindOf x=cz .free)->∃c,X.env.cells.lookup x=cz c
  cab:∀x c,X.fn x=yn->X.env.cells.lookup x=cz c->X.s₀.heap.objs.size<=c
  hd:X.calm=yn->X.A.handled=xn
  frames:X.A.frames=cz X.stack
  stk:X.stack=X.outer\/(X.stack=X.env::X.outer/\X.env.frame=cz X.env.locals)
  exf:∀b∈X.ex,b≠X.env.locals/\∀x c,X.env.cells.lookup x=cz c->c≠b
  bs:∀b o,X.base.get? b=cz o->X.s₀.heap.get? b=cz o/\X.H₀ b=xn
  bsz:X.base.objs.size<=X.s₀.heap.objs.size
  noex:∀b o,X.base.get? b=cz o->b∉X.ex
  exfs:∀b∈X.ex,b∉X.fs
  funs:X.s₀.heap.FunFrames X.base X.outer
  frf:∀b∈X.fs,X.H₀ b=xn
  tabs:TabsIn X.K X.H₀
structure Inv (X:Cx) (pins:List (aw×fV)) (U:List (Option V)) (H:Hp) (s:au):Prop where
  ok:X.Ok
  os:s.os=X.s₀.os
  bare:jV s.gens
  base:Un X.fs X.ex X.H₀ H X.s₀.heap s.heap
  loc:∃m,s.heap.Ns X.env.locals m/\∀(i:Nat) (x:bA) (v:V),X.N[i]?=cz x->U[i]?=cz (cz v)->Vis X.env.scope x->∃u,RelV v u/\Look X.env s.heap m x u
  cell:∀x c,X.env.cells.lookup x=cz c->∃v,s.heap.IsCell c v
  free:H X.env.locals=xn
  freeC:∀x c,X.env.cells.lookup x=cz c->H c=xn
  pin:∀p∈X.pn++pins,s.heap.get? p.1=cz p.2/\H p.1=xn/\p.1≠X.env.locals/\p.1∉X.fs/\∀v,p.2.data≠.cell v
  hok:HOk X.prog X.w H s.heap
  len:U.length=X.N.length
section
variable {X:Cx}{pins:List (aw×fV)}{U:List (Option V)}{H H':Hp}{s:au}{h':cB}
def Cx.Ok.nofr(ok:X.Ok)(e:X.base.get? b=cz o):b∉X.fs:=λhb=>by
  have:=(ok.funs.mem hb).1;rw[e]at this;cases this
theorem Inv.bs(I:Inv X pins U H s):∀b o,X.base.get? b=cz o->s.heap.get? b=cz o/\H b=xn:=λb o e=>
  ⟨I.base.keep b o (I.ok.bs b o e).1 (I.ok.bs b o e).2 (I.ok.nofr e) (I.ok.noex b o e),I.base.free b o (I.ok.bs b o e).1 (I.ok.bs b o e).2 (I.ok.noex b o e)⟩
theorem Inv.tabs(I:Inv X pins U H s):TabsIn X.K H:=I.ok.tabs.un I.base
def Inv.bk(I:Inv X pins U H s):∀b o,X.base.get? b=cz o->s.heap.get? b=cz o:=λb o e=>(I.bs b o e).1
theorem Inv.mod(I:Inv X pins U H s):Mod X.K X.mg X.base:=I.ok.mod
def Inv.kIn(I:Inv X pins U H s):X.K.In s.heap:=I.ok.mod.kin.keeps I.bk
theorem Inv.lt(I:Inv X pins U H s):X.env.locals<s.heap.objs.size:=let⟨_,hn,_⟩:=I.loc;hn.lt
def Inv.sz(I:Inv X pins U H s):X.s₀.heap.objs.size<=s.heap.objs.size:=cR I.ok.above (fg I.lt)
def Inv.nofs(I:Inv X pins U H s)(h:s.heap.objs.size<=a):a∉X.fs:=λhb=>by
  obtain⟨_,o,ho,_⟩:=I.ok.funs.mem hb;exact absurd (bb (aS ho) (cR I.sz h)) (dA _)
def Inv.cne(I:Inv X pins U H s):∀x c,X.env.cells.lookup x=cz c->c≠X.env.locals:=λx c e z=>by
  obtain⟨v,o,ho,hd⟩:=I.cell x c e;obtain⟨m,⟨o',es,ep,nV,ke,_⟩,_⟩:=I.loc;rw[z,nV]at ho;cases ho;rw[ke]at hd;cases hd
theorem Inv.funs(I:Inv X pins U H s):s.heap.FunFrames X.base X.outer:=by
  have all:∀(l:List nQ),(∀b∈frs l,b∈X.fs)->X.s₀.heap.FunFrames X.base l->s.heap.FunFrames X.base l:=by
    intro l
    induction l with
    |nil=>intro _ _;trivial
    |cons env r ih=>
      intro hs hl;obtain⟨hk,⟨L,o,hf,hn,ho,hd⟩,hr⟩:=hl;have hL:L∈X.fs:=hs L (by unfold frs;rw[gY,hf];exact aN);obtain⟨sl,e⟩:=I.base.slot L o ho (I.ok.frf L hL) hL λz=>I.ok.exfs L z hL
      exact⟨hk,⟨L,_,hf,hn,e,hd⟩,ih (λb hb=>hs b (by unfold frs;rw[gY,hf];exact ax _ hb)) hr⟩
  exact all X.outer (λ_ hb=>hb) I.ok.funs
theorem Inv.stack(I:Inv X pins U H s):s.heap.FunFrames X.base X.stack:=by
  rcases I.ok.stk with e|⟨e,hf⟩
  . rw[e];exact I.funs
  . rw[e]
    obtain⟨m,hn,_⟩:=I.loc;refine .cons (by rw[I.ok.kind];decide) hf hn ?_ I.funs;exact cB.get?_none_of_le (cR I.ok.bsz I.ok.above)
def Inv.stkSub(I:Inv X pins U H s):∀b∈frs X.stack,b∈X.env.locals::X.fs:=λb hb=>by
  rcases I.ok.stk with e|⟨e,hf⟩
  . rw[e]at hb;exact ax _ hb
  . rw[e]at hb
    unfold frs at hb;rw[gY,hf]at hb;exact hb
def Inv.stkFree(I:Inv X pins U H s):∀b∈frs X.stack,H b=xn:=λb hb=>by
  rcases aG.mp (I.stkSub b hb) with e|hb
  . rw[e];exact I.free
  . obtain⟨_,o,ho,_⟩:=I.ok.funs.mem hb
    exact I.base.free b o ho (I.ok.frf b hb) λz=>I.ok.exfs b z hb
def Inv.step{g':Array GenState}{t':Nat}{d':Drawn}{ch:List aw}(I:Inv X pins U H s)
    (rh:∀b∈ch,(b∈X.ex\/X.s₀.heap.objs.size<=b)/\b≠X.env.locals/\(∀x c,X.env.cells.lookup x=cz c->c≠b)/\∀p∈X.pn++pins,p.1≠b)
    (keep:∀b o,b≠X.env.locals->b∉X.fs->b∉ch->s.heap.get? b=cz o->H b=xn->h'.get? b=cz o)
    (slot:∀b o,b≠X.env.locals->b∈X.fs->b∉ch->s.heap.get? b=cz o->H b=xn->∃sl,h'.get? b=cz {o with slots:=sl}) (free:∀b o,b∉ch->s.heap.get? b=cz o->H b=xn->H' b=xn)
    (there:∀b o,b∉ch->s.heap.get? b=cz o->∃o',h'.get? b=cz o')
    (tups:∀b xs,H b=cz (.tup xs)->H' b=cz (.tup xs)) (frzs:∀b o u,H b=cz (.frz o u)->H' b=cz (.frz o u)) (tbls:∀b ps,H b=cz (.tbl ps)->∃more,H' b=cz (.tbl (ps++more)))
    (ns:∀m,s.heap.Ns X.env.locals m->h'.Ns X.env.locals m) (hok:HOk X.prog X.w H' h') (hg:jV g') :
    Inv X pins U H' {s with heap:=h',gens:=g',drawn:=d',toks:=t'}:=by
  have AZ:∀b o,X.s₀.heap.get? b=cz o->b≠X.env.locals:=λb o e=>bI (bb (aS e) I.ok.above)
  have xG:∀b o,X.s₀.heap.get? b=cz o->b∉X.ex->b∉ch:=λb o e hx hb=>by
    rcases (rh b hb).1 with z|z
    . exact hx z
    . exact absurd (bb (aS e) z) (dA _)
  have cellK:∀x c,X.env.cells.lookup x=cz c->∀v,s.heap.IsCell c v->h'.IsCell c v:=λx c e v ⟨o,ho,hd⟩=>by
    have qH:c∉ch:=λz=>(rh c z).2.2.1 x c e rfl
    by_cases hc:c∈X.fs
    . obtain⟨sl,q⟩:=slot c o (I.cne x c e) hc qH ho (I.freeC x c e)
      exact⟨_,q,hd⟩
    . exact⟨o,keep c o (I.cne x c e) hc qH ho (I.freeC x c e),hd⟩
  refine⟨I.ok,I.os,hg,⟨λb o e n hb hx=>?_,λb o e n hb hx=>?_,λb o e n hx=>?_,λb o e hx=>?_,λb xs e=>tups b xs (I.base.tups b xs e),λb o xs e=>frzs b o xs (I.base.frzs b o xs e),λb ps e=>?_⟩,?_,λx c e=>?_,?_,λx c e=>?_,λp hp=>?_,hok,I.len⟩
  . exact keep b o (AZ b o e) hb (xG b o e hx) (I.base.keep b o e n hb hx) (I.base.free b o e n hx)
  . obtain⟨sl,e1⟩:=I.base.slot b o e n hb hx
    obtain⟨uN,e2⟩:=slot b _ (AZ b o e) hb (xG b o e hx) e1 (I.base.free b o e n hx);exact⟨uN,e2⟩
  . obtain⟨o',e1⟩:=I.base.there b o e hx
    exact free b o' (xG b o e hx) e1 (I.base.free b o e n hx)
  . obtain⟨o',e1⟩:=I.base.there b o e hx
    exact there b o' (xG b o e hx) e1
  . obtain⟨m1,e1⟩:=I.base.tbls b ps e
    obtain⟨m2,e2⟩:=tbls b _ e1;exact⟨m1++m2,by rw[e2,iq]⟩
  . obtain⟨m,hn,hl⟩:=I.loc
    refine⟨m,ns m hn,λi x v e1 e2 e3=>?_⟩;obtain⟨u,r,l⟩:=hl i x v e1 e2 e3;refine⟨u,r,?_⟩;rcases l with l|⟨k,c,e,z⟩
    . exact .inl l
    . exact .inr ⟨k,c,e,cellK x c e _ z⟩
  . obtain⟨v,z⟩:=I.cell x c e
    exact⟨v,cellK x c e v z⟩
  . obtain⟨m,⟨o,_,_,ho,_⟩,_⟩:=I.loc
    exact free _ o (λz=>(rh _ z).2.1 rfl) ho I.free
  . obtain⟨v,o,ho,hd⟩:=I.cell x c e
    exact free c o (λz=>(rh c z).2.2.1 x c e rfl) ho (I.freeC x c e)
  . obtain⟨e,n,ne,nf,d⟩:=I.pin p hp
    have qH:p.1∉ch:=λz=>(rh p.1 z).2.2.2 p hp rfl
    exact⟨keep p.1 p.2 ne nf qH e n,free p.1 p.2 qH e n,ne,nf,d⟩
def Inv.un(I:Inv X pins U H s)(u:Un X.fs [] H H' s.heap h')(hok:HOk X.prog X.w H' h'):Inv X pins U H' {s with heap:=h',toks:=t'}:=by
  obtain⟨m,⟨o,es,ep,ho,r⟩,_⟩:=id I.loc;obtain⟨sl,hL⟩:=u.any ho I.free (by simp);exact I.step (g':=s.gens) (d':=s.drawn) (ch:=[]) (λ_ z=>nomatch z) (λb o _ hb _ e n=>u.keep b o e n hb (by simp)) (λb o _ hb _ e n=>u.slot b o e n hb (by simp)) (λb o _ e n=>u.free b o e n (by simp)) (λb o _ e=>u.there b o e (by simp)) u.tups u.frzs u.tbls (λm' hm=>by
    obtain⟨o',jL,rZ,nV,r'⟩:=hm;rw[ho]at nV;cases nV;exact⟨_,jL,rZ,hL,r'⟩) hok I.bare
def Inv.call(I:Inv X pins U H s)(u:Un (frs X.stack) ch H H' s.heap h')(hok:HOk X.prog X.w H' h')(hg:jV g')
    (rh:∀b∈ch,(b∈X.ex\/X.s₀.heap.objs.size<=b)/\b≠X.env.locals/\(∀x c,X.env.cells.lookup x=cz c->c≠b)/\∀p∈X.pn++pins,p.1≠b) :
    Inv X pins U H' {s with heap:=h',gens:=g',drawn:=d',toks:=t'}:=by
  obtain⟨m,⟨o,es,ep,ho,r⟩,_⟩:=id I.loc;obtain⟨sl,hL⟩:=u.any ho I.free λz=>(rh _ z).2.1 rfl
  exact I.step (ch:=ch) rh (λb o hL hb hc e n=>u.keep b o e n (λz=>(aG.mp (I.stkSub b z)).elim hL hb) hc) (λb o _ _ hc e n=>u.any e n hc) (λb o hc e n=>u.free b o e n hc) (λb o hc e=>u.there b o e hc) u.tups u.frzs u.tbls (λm' hm=>by
    obtain⟨o',jL,rZ,nV,r'⟩:=hm;rw[ho]at nV;cases nV;exact⟨_,jL,rZ,hL,r'⟩) hok hg
def Inv.turned(I:Inv X pins U H s)(k:∀b o,b≠it->s.heap.get? b=cz o->h'.get? b=cz o)(hn:H it=xn)(hL:it≠X.env.locals)
    (h1:it∈X.ex\/X.s₀.heap.objs.size<=it) (h2:∀x c,X.env.cells.lookup x=cz c->c≠it) (h3:∀p∈X.pn++pins,p.1≠it):Inv X pins U H {s with heap:=h',toks:=t'}:=by
  have AW:∀b u,H b=cz u->b≠it:=λb u e z=>by rw[z,hn]at e;cases e
  refine I.step (g':=s.gens) (d':=s.drawn) (ch:=[it]) (λb hb=>?_) (λb o _ _ hc e _=>k b o (λz=>hc (by simp[z])) e) (λb o _ _ hc e _=>⟨o.slots,k b o (λz=>hc (by simp[z])) e⟩) (λ_ _ _ _ n=>n)
    (λb o hc e=>⟨o,k b o (λz=>hc (by simp[z])) e⟩) (λ_ _ e=>e) (λ_ _ _ e=>e) (λb ps e=>⟨#[],by rw[e];simp⟩) (λm hm=>?_) (λb u e=>?_) I.bare
  . have e:b=it:=by simpa using hb
    subst e;exact⟨h1,hL,h2,h3⟩
  . obtain⟨o,es,ep,ho,r⟩:=hm
    exact⟨o,es,ep,k _ o (cV hL) ho,r⟩
  . refine (I.hok b u e).stay (λc v hc q=>k c v ?_ q) (λ_ q=>q) λ_ _ q=>q
    rcases hc with z|z
    . rw[z];exact AW b u e
    . exact AW c _ z
def Inv.tok(I:Inv X pins U H s)(t:Nat):Inv X pins U H {s with toks:=t}:=I.un (h':=s.heap) (t':=t) Un.refl I.hok
theorem Inv.kept(I:Inv X pins U H s)(k:∀b u,s.heap.get? b=cz u->h'.get? b=cz u):Inv X pins U H {s with heap:=h',toks:=t'}:=I.un (Un.kept k) (I.hok.kept k)
theorem Inv.laid{a:aw}{o:HO}{t':Nat}(I:Inv X pins U H s)(k:∀b u,s.heap.get? b=cz u->h'.get? b=cz u)(hp:s.heap.objs.size<=a)(new:ObjOk X.prog X.w (upd H a o) h' a o) :
    Inv X pins U (upd H a o) {s with heap:=h',toks:=t'}:=I.un (Un.laid k hp (I.hok.fresh hp)) (I.hok.laid k hp new)
theorem Inv.write(I:Inv X pins U H s)(mu:Mut (H x))(he:e=x\/H e=cz (.own x))(k:∀b u,b≠e->s.heap.get? b=cz u->h'.get? b=cz u)(uX:∃u,h'.get? e=cz u)
    (new:ObjOk X.prog X.w (upd H x o) h' x o):Inv X pins U (upd H x o) {s with heap:=h',toks:=t'}:=I.un (Un.write mu he k uX) (I.hok.write mu he k uX new)
def Inv.pins_of(I:Inv X pins U H s)(h:∀p∈jZ,s.heap.get? p.1=cz p.2/\H p.1=xn/\p.1≠X.env.locals/\p.1∉X.fs/\∀v,p.2.data≠.cell v):Inv X jZ U H s:=
  ⟨I.ok,I.os,I.bare,I.base,I.loc,I.cell,I.free,I.freeC,λp hp=>(av.mp hp).elim (λz=>I.pin p (ao _ z)) (h p),I.hok,I.len⟩
def a2X{N:List bA}(hN:N.Nodup){i j:Nat}{x:bA}(a:N[i]?=cz x)(b:N[j]?=cz x):i=j:=by
  obtain⟨h1,e1⟩:=aO.mp a;obtain⟨h2,e2⟩:=aO.mp b;exact (List.getElem_inj hN).mp (e1.trans e2.symm)
def b1c{M:Model}{A:bP}{E:ak->au->Prop}{i:Nat}{x:bA}{v:V}{u:ak}{Q:Unit->au->Prop}(I:Inv X pins U H s)(hN:X.N.Nodup)(hi:X.N[i]?=cz x)(hx:Loc X.env.scope x)(r:RelV v u)
    (h:∀s',Inv X pins (U.set i (cz v)) H s'->(∃a,kB a s.heap s'.heap/\(a=X.env.locals\/X.env.cells.lookup x=cz a))->Q () s') (hf:autoParam (X.fn x=yn\/X.env.scope.names.lookup x=cz .local) ZZ._auto_1):aZ M A (storeName X.env x u) Q E s:=by
  obtain⟨m,hn,hl⟩:=id I.loc;have uj:(X.env.scope.kind==.class||(X.env.scope.kind==.module&&X.env.locals !=X.env.globals))=yH:=by rw[I.ok.kind];rfl
  have rN:i<U.length:=by rw[I.len];exact (aO.mp hi).1
  have cne:=I.cne;have tracked:∀{a:aw} {h':cB},(∃o,s.heap.get? a=cz o/\H a=xn)->kB a s.heap h'->HOk X.prog X.w H h':=λ{a h'} ha hs b ob e=>by
    obtain⟨_,_,lz⟩:=ha;refine (I.hok b ob e).stay (λc w' hc q=>(hs.2 c ?_).trans q) (λ_ q=>q) λ_ _ q=>q
    rintro rfl;rcases hc with rfl|hc
    . rw[lz]at e;cases e
    . rw[lz]at hc;cases hc
  rcases hx with hk|hk
  . refine wpAny_storeName_local hk hn (λh' tY hs=>?_) uj
    obtain⟨oL,_,_,DK,_⟩:=id hn;refine h _ ⟨I.ok,I.os,I.bare,⟨λb o e n hb hx=>?_,λb o e n hb hx=>?_,I.base.free,λb o e hx=>?_,I.base.tups,I.base.frzs,I.base.tbls⟩,⟨_,tY,λj y v' e1 e2 e3=>?_⟩,λy c e=>?_,I.free,I.freeC,λp hp=>?_,tracked ⟨oL,DK,I.free⟩ hs,by simpa using I.len⟩ ⟨_,hs,.inl rfl⟩
    . exact (hs.2 b (bI (bb (aS e) I.ok.above))).trans (I.base.keep b o e n hb hx)
    . obtain⟨sl,e1⟩:=I.base.slot b o e n hb hx
      exact⟨sl,(hs.2 b (bI (bb (aS e) I.ok.above))).trans e1⟩
    . obtain⟨o',e1⟩:=I.base.there b o e hx
      exact⟨o',(hs.2 b (bI (bb (aS e) I.ok.above))).trans e1⟩
    . by_cases hj:j=i
      . subst hj
        rw[hi]at e1;cases e1;rw[dM rN]at e2;cases e2
        exact⟨u,r,.inl ⟨hk,by simp⟩⟩
      . rw[bF (cV hj)]at e2
        obtain⟨u',r',q⟩:=hl j y v' e1 e2 e3;refine⟨u',r',?_⟩;rcases q with⟨k,e⟩|⟨k,c,e,z⟩
        . refine .inl ⟨k,?_⟩
          have:y≠x:=λe=>hj (a2X hN e1 (e▸hi))
          simp[this,e]
        . exact .inr ⟨k,c,e,z.sameBut hs (cne y c e)⟩
    . obtain⟨w',z⟩:=I.cell y c e
      exact⟨w',z.sameBut hs (cne y c e)⟩
    . obtain⟨e,n,ne,nf,d⟩:=I.pin p hp
      exact⟨(hs.2 p.1 ne).trans e,n,ne,nf,d⟩
  . have oS:X.fn x=yn:=by
      rcases hf with z|z
      . exact z
      . rw[z]at hk;cases hk
    obtain⟨c,hc⟩:=I.ok.has x (.inl hk);obtain⟨w',z⟩:=I.cell x c hc;refine wpAny_storeName_cell I.ok.kind hk hc z (λh' uZ hs=>?_);obtain⟨oc,vZ,zp⟩:=id z;refine h {s with heap:=h'} ⟨I.ok,I.os,I.bare,⟨λb o e n hb hx=>?_,λb o e n hb hx=>?_,I.base.free,λb o e hx=>?_,I.base.tups,I.base.frzs,I.base.tbls⟩,⟨m,hn.sameBut hs (cV (cne x c hc)),λj y v' e1 e2 e3=>?_⟩,λy c' e=>?_,I.free,I.freeC,λp hp=>?_,tracked ⟨oc,vZ,I.freeC x c hc⟩ hs,by simpa using I.len⟩ ⟨c,hs,.inr hc⟩
    . exact (hs.2 b (bI (bb (aS e) (I.ok.cab x c oS hc)))).trans (I.base.keep b o e n hb hx)
    . obtain⟨sl,e1⟩:=I.base.slot b o e n hb hx
      exact⟨sl,(hs.2 b (bI (bb (aS e) (I.ok.cab x c oS hc)))).trans e1⟩
    . obtain⟨o',e1⟩:=I.base.there b o e hx
      exact⟨o',(hs.2 b (bI (bb (aS e) (I.ok.cab x c oS hc)))).trans e1⟩
    . by_cases hj:j=i
      . subst hj
        rw[hi]at e1;cases e1;rw[dM rN]at e2;cases e2
        exact⟨u,r,.inr ⟨.inl hk,c,hc,uZ⟩⟩
      . rw[bF (cV hj)]at e2
        obtain⟨u',r',q⟩:=hl j y v' e1 e2 e3;refine⟨u',r',?_⟩;rcases q with q|⟨k,c',e,z'⟩
        . exact .inl q
        . refine .inr ⟨k,c',e,z'.sameBut hs ?_⟩
          rintro rfl;exact hj (a2X hN e1 (I.ok.inj _ _ _ e hc▸hi))
    . by_cases xY:c'=c
      . subst xY;exact⟨_,uZ⟩
      . obtain⟨w2,z2⟩:=I.cell y c' e
        exact⟨w2,z2.sameBut hs xY⟩
    . obtain⟨e,n,ne,nf,d⟩:=I.pin p hp
      refine⟨(hs.2 p.1 ?_).trans e,n,ne,nf,d⟩;intro q;rw[q,vZ]at e;have q':oc=p.2:=aK e;exact d w' (by rw[<-q'];exact zp)
def W7(I:Inv X pins U H s)(hN:X.N.Nodup)(hi:X.N[i]?=cz x)(hx:Loc X.env.scope x)(r:RelV v u)
    (h:∀s',Inv X pins (U.set i (cz v)) H s'->Q () s') (hf:autoParam (X.fn x=yn\/X.env.scope.names.lookup x=cz .local) ZZ._auto_1):aZ M A (storeName X.env x u) Q E s:=
  b1c I hN hi hx r (λs' I' _=>h s' I') hf
def Inv.call'{s':au}(I:Inv X pins U H s)(ho:s'.os=s.os)(u:Un (frs X.stack) ch H H' s.heap s'.heap)(hok:HOk X.prog X.w H' s'.heap)(hg:jV s'.gens)
    (rh:∀b∈ch,(b∈X.ex\/X.s₀.heap.objs.size<=b)/\b≠X.env.locals/\(∀x c,X.env.cells.lookup x=cz c->c≠b)/\∀p∈X.pn++pins,p.1≠b):Inv X pins U H' s':=by
  obtain⟨h',g',d',t',o'⟩:=s';have e:o'=s.os:=ho;subst e;exact I.call (g':=g') (t':=t') (d':=d') u hok hg rh
end
abbrev XK:=ak->Option aw->Hp->Prop
abbrev St:=List (Option V)
abbrev VK:=V->Hp->Prop
abbrev TE:=St->Hp->VK->Prop
abbrev TT:=St->Hp->(Bool->Hp->Prop)->Prop
abbrev TA:=St->Hp->(List V->Hp->Prop)->Prop
structure Ends where
  nx:St->Hp->Prop
  rt:VK
  bk:St->Hp->Prop:=λ_ _=>False
  ct:St->Hp->Prop:=λ_ _=>False
abbrev TS:=Ends->St->Hp->Prop
def EP(X:Cx)(pins:List (aw×fV))(U:St)(Q:VK)(u:ak)(s':au):Prop:=∃v H',Inv X pins U H' s'/\RelV v u/\Q v H'
def TP(X:Cx)(pins:List (aw×fV))(U:St)(Q:Bool->Hp->Prop)(b:Bool)(s':au):Prop:=∃H',Inv X pins U H' s'/\Q b H'
def AP(X:Cx)(pins:List (aw×fV))(U:St)(Q:List V->Hp->Prop)(us:List ak)(s':au):Prop:=∃vs H',Inv X pins U H' s'/\Vals vs us/\Q vs H'
def SP(X:Cx)(pins:List (aw×fV))(D:Ends)(f:Flow)(s':au):Prop:=
  match f with
  |.next=>∃U' H',Inv X pins U' H' s'/\D.nx U' H'
  |.brk=>∃U' H',Inv X pins U' H' s'/\D.bk U' H'
  |.cont=>∃U' H',Inv X pins U' H' s'/\D.ct U' H'
  |.ret u=>∃v U' H',Inv X pins U' H' s'/\RelV v u/\D.rt v H'
def PE(X:Cx)(e:Expr)(t:TE):Prop:=
  ∀(pins:List (aw×fV)) (s:au) (U:St) (H:Hp) (Q:VK),Inv X pins U H s->t U H Q->aZ (aX X.prog X.w) X.A (cD e X.env) (EP X pins U Q) X.xe s
def PT(X:Cx)(e:Expr)(t:TT):Prop:=
  ∀(pins:List (aw×fV)) (s:au) (U:St) (H:Hp) (Q:Bool->Hp->Prop),Inv X pins U H s->t U H Q->aZ (aX X.prog X.w) X.A (Di e X.env (cD e X.env)) (TP X pins U Q) X.xe s
def PW(X:Cx)(e:Expr)(t:TT):Prop:=
  ∀(whole:AD ak) (pins:List (aw×fV)) (s:au) (U:St) (H:Hp) (Q:Bool->Hp->Prop),Inv X pins U H s->t U H Q->aZ (aX X.prog X.w) X.A (Di e X.env whole) (TP X pins U Q) X.xe s
def PW.pt(h:PW X e t):PT X e t:=h _
def PA(X:Cx)(es:List Expr)(t:TA):Prop:=
  ∀(pos:fS) (pins:List (aw×fV)) (s:au) (U:St) (H:Hp) (Q:List V->Hp->Prop),Inv X pins U H s->t U H Q->aZ (aX X.prog X.w) X.A (spliced (cy pos (aq es X.env))) (AP X pins U Q) X.xe s
def PS(X:Cx)(st:gx)(t:TS):Prop:=
  ∀(pins:List (aw×fV)) (s:au) (U:St) (H:Hp) (D:Ends),Inv X pins U H s->t D U H->aZ (aX X.prog X.w) X.A (exec st X.env) (SP X pins D) X.xe s
def PSs(X:Cx)(st:List gx)(t:TS):Prop:=
  ∀(pins:List (aw×fV)) (s:au) (U:St) (H:Hp) (D:Ends),Inv X pins U H s->t D U H->aZ (aX X.prog X.w) X.A (execs st X.env) (SP X pins D) X.xe s
def thn{α:Type}{t:AD α}{Q Q':α->au->Prop}{M:Model}{A:bP}{E:ak->au->Prop}{s:au}(h:aZ M A t Q E s)(hQ:∀a s,Q a s->Q' a s):aZ M A t Q' E s:=dh h hQ λ_ _ x=>x
section
variable {X:Cx}
def c1g(i:Nat):TE:=λU H Q=>∃v,U[i]?=cz (cz v)/\Q v H
def tC(v:V):TE:=λ_ H Q=>Q v H
def A5(hN:X.N[i]?=cz x)(hv:Vis X.env.scope x)(hd:(x==("__debug__":bA))=yH:=by decide)(kU:(x==("__classdict__":bA))=yH:=by decide):PE X (.Name x pos) (c1g i):=by
  intro pins s U H Q I h;obtain⟨v,e,h⟩:=h;obtain⟨m,hn,hl⟩:=I.loc;obtain⟨u,r,l⟩:=hl i x v hN e hv;have fin:EP X pins U Q u s:=⟨v,H,I,r,h⟩;rcases l with⟨hk,hm⟩|⟨hk,c,hc,mV⟩
  . exact wpAny_Name (wpAny_loadName_local I.ok.kind hk hn hm fin) hd
  . rcases hk with hk|hk
    . exact wpAny_Name (wpAny_loadName_cell I.ok.kind hk hc mV fin) hd
    . exact wpAny_Name (wpAny_loadName_free I.ok.kind hk hc mV fin kU) hd
def a8j{i j pos}:PE X (.Constant (.int i) j pos) (tC (.int i)):=λ_ _ _ H _ I h=>wpAny_Constant_int ⟨.int i,H,I.tok _,⟨_,rfl⟩,h⟩
def c1h{b j pos}:PE X (.Constant (.bool b) j pos) (tC (.bl b)):=λ_ _ _ H _ I h=>Constant_bool ⟨.bl b,H,I,rfl,h⟩
def b8I{j pos}:PE X (.Constant .none j pos) (tC .non):=λ_ _ _ H _ I h=>Constant_none ⟨.non,H,I,rfl,h⟩
def b2S{x j pos}:PE X (.Constant (.str x) j pos) (tC (.str x)):=λ_ _ _ H _ I h=>Calls.Constant_str ⟨.str x,H,I.tok _,⟨_,rfl⟩,h⟩
def Gl(X:Cx)(x:bA):Prop:=X.env.kindOf x=cz .globalImplicit
def Z9(I:Inv X pins U H s)(hg:Gl X x)(hm:X.mg x=cz u)(h:Q u s)
    (hd:(x==("__debug__":bA))=yH:=by decide):aZ (aX X.prog X.w) X.A (cD (.Name x pos) X.env) Q E s:=
  xx I.ok.kind hg (Calls.loadGlobal_global (by rw[I.ok.glob];exact I.mod.glob.keeps I.bk) hm h) hd
def a0G(I:Inv X pins U H s)(hg:Gl X x)(hm:X.mg x=xn)(hv:fQ x=cz u)(h:Q u s)
    (hn:x≠"__name__":=by decide) (hd:(x==("__debug__":bA))=yH:=by decide):aZ (aX X.prog X.w) X.A (cD (.Name x pos) X.env) Q E s:=by
  obtain⟨mb,h1,h2⟩:=I.mod.blt;exact xx I.ok.kind hg (Calls.loadGlobal_builtin (by rw[I.ok.glob];exact I.mod.glob.keeps I.bk) hm (by rw[I.ok.blt];exact h1.keeps I.bk) ((h2 x hn).trans hv) h) hd
def a5P(hg:Gl X x)(hm:X.mg x=cz u)(r:RelV v u)(hd:(x==("__debug__":bA))=yH:=by decide):PE X (.Name x pos) (tC v):=
  λ_ _ _ H _ I h=>Z9 I hg hm ⟨v,H,I,r,h⟩ hd
def a9O(hg:Gl X x)(hm:X.mg x=xn)(hv:fQ x=cz u)(r:RelV v u)(hn:x≠"__name__":=by decide)(hd:(x==("__debug__":bA))=yH:=by decide):PE X (.Name x pos) (tC v):=
  λ_ _ _ H _ I h=>a0G I hg hm hv ⟨v,H,I,r,h⟩ hn hd
variable {a b:Expr}{ta tb:TE}{pos:fS}
def tB(t:TE):TT:=λU H Q=>t U H λx H1=>∃c,x=.bl c/\Q c H1
variable {tA xB:TT}{rest:List Expr}
def c2X(t u:TT):TT:=λU H Q=>t U H λc H1=>if c=yn then u U H1 Q else Q yH H1
def tOr(t u:TT):TT:=λU H Q=>t U H λc H1=>if c=yn then Q yn H1 else u U H1 Q
def c2Y(t:TT):TT:=λU H Q=>t U H λc H1=>Q (!c) H1
def b6c(ha:PT X a tA):PW X (.BoolOp .And [a] pos) tA:=by
  intro wh pins s U H Q I h;refine isTrue_and (thn (ha pins s U H Q I h) λc s1 e=>?_);cases c with
  |true=>exact isTrue_and_nil e
  |false=>exact e
def b8J(ha:PT X a tA):PW X (.BoolOp .Or [a] pos) tA:=by
  intro wh pins s U H Q I h;refine isTrue_or (thn (ha pins s U H Q I h) λc s1 e=>?_);cases c with
  |false=>exact isTrue_or_nil e
  |true=>exact e
def b8K(ha:PT X a tA)(hb:PW X (.BoolOp .And (b::rest) pos) xB):PW X (.BoolOp .And (a::b::rest) pos) (c2X tA xB):=by
  intro wh pins s U H Q I h;refine isTrue_and (thn (ha pins s U H _ I h) λc s1 ⟨H1,I1,q1⟩=>?_);cases c with
  |true=>exact hb wh pins s1 U H1 Q I1 q1
  |false=>exact⟨H1,I1,q1⟩
def c1i(ha:PT X a tA)(hb:PW X (.BoolOp .Or (b::rest) pos) xB):PW X (.BoolOp .Or (a::b::rest) pos) (tOr tA xB):=by
  intro wh pins s U H Q I h;refine isTrue_or (thn (ha pins s U H _ I h) λc s1 ⟨H1,I1,q1⟩=>?_);cases c with
  |true=>exact⟨H1,I1,q1⟩
  |false=>exact hb wh pins s1 U H1 Q I1 q1
def b8L(ha:PT X a tA):PT X (.UnaryOp .Not a pos) (c2Y tA):=by
  intro pins s U H Q I h;exact isTrue_not (ha pins s U H (λc H1=>Q (!c) H1) I h)
def c1j(ta tb:TE):TE:=λU H Q=>ta U H λx H1=>∃c,x=.bl c/\if c=yn then tb U H1 Q else Q (.bl yH) H1
def c1k(ta:TE):TE:=λU H Q=>ta U H λx H1=>∃c,x=.bl c/\Q (.bl (!c)) H1
def b8M{op}(h:PE X a t):PE X (.BoolOp op [a] pos) t:=λpins s U H Q I hw=>BoolOp_one (h pins s U H Q I hw)
def b8N(ha:PE X a ta)(hb:PE X (.BoolOp .And (b::rest) pos) tb):PE X (.BoolOp .And (a::b::rest) pos) (c1j ta tb):=by
  intro pins s U H Q I h;refine BoolOp_and (thn (ha pins s U H _ I h) λv s1 qz=>?_);obtain⟨x,H1,I1,r1,q1⟩:=qz;obtain⟨c,rfl,q1⟩:=q1;cases r1
  refine eJ ?_;cases c with
  |true=>exact hb pins s1 U H1 Q I1 q1
  |false=>exact⟨.bl yH,H1,I1,rfl,q1⟩
def b8O(ha:PE X a ta):PE X (.UnaryOp .Not a pos) (c1k ta):=by
  intro pins s U H Q I h;refine UnaryOp_ (thn (ha pins s U H _ I h) λv s1 qz=>?_);obtain⟨x,H1,I1,r1,q1⟩:=qz;obtain⟨c,rfl,q1⟩:=q1;cases r1
  exact not_of (eJ ⟨.bl (!c),H1,I1,rfl,q1⟩)
end
def SqL(K:ae)(H:Hp)(a:aw)(xs:List V):Prop:=
  Rd H a (.lst xs)\/
    ∃(o:fV) (its:Array ak) (n:Nat),K.lookup a=cz o/\o.cls=.type "list"/\o.dict=xn/\o.data=.seq its n/\its.size<=bg/\Vals xs its.toList
def SqT(K:ae)(H:Hp)(a:aw)(xs:List V):Prop:=
  Rd H a (.tup xs)\/
    ∃(o:fV) (its:Array ak) (n:Nat),K.lookup a=cz o/\o.cls=.type "tuple"/\o.data=.seq its n/\its.size<=bg/\Vals xs its.toList
def c2Z:ak->Option V
  |.none=>cz .non
  |.bool b=>cz (.bl b)
  |.int i _=>cz (.int i)
  |.str x _=>cz (.str x)
  |.bytes b _=>cz (.byt b)
  |.float b _=>cz (.flt b)
  |.ref a=>cz (.ref a)
  |.type n=>cz (.ty n)
  |_=>xn
def RelV.abs(r:RelV x u):c2Z u=cz x:=by
  cases x with
  |non=>cases r;rfl
  |bl _=>cases r;rfl
  |int _=>obtain⟨t,rfl⟩:=r;rfl
  |str _=>obtain⟨t,rfl⟩:=r;rfl
  |byt _=>obtain⟨t,rfl⟩:=r;rfl
  |flt _=>obtain⟨t,rfl⟩:=r;rfl
  |ref _=>cases r;rfl
  |ty _=>cases r;rfl
def RelV.inj(r:RelV x u)(q:RelV y u):x=y:=aK (r.abs.symm.trans q.abs)
theorem Vals.inj:∀{xs ys:List V} {us:List ak},Vals xs us->Vals ys us->xs=ys
  |_,_,_,.nil,.nil=>rfl
  |_,_,_,.cons r t,.cons r' t'=>by rw[r.inj r',Vals.inj t t']
section
variable {X:Cx}{pins:List (aw×fV)}{U:St}{H:Hp}{s:au}{a:aw}{xs ys:List V}
def SqL.of{K:ae}(h:H a=cz (.lst xs)):SqL K H a xs:=.inl (.inl h)
def SqT.of{K:ae}(h:H a=cz (.tup xs)):SqT K H a xs:=.inl (.inl h)
def Inv.list(I:Inv X pins U H s)(h:SqL X.K H a xs):∃its:List ak,Vals xs its/\PlainL s.heap a its.toArray/\xs.length<=bg:=by
  rcases h with h|⟨o,its,n,hk,hc,hd,hs,hz,r⟩
  . obtain⟨z,its,n,r,e⟩:=h.ok I.hok
    exact⟨its,r,⟨_,n,e,rfl,rfl,rfl⟩,z⟩
  . refine⟨its.toList,r,⟨o,n,I.kIn a o hk,hc,hd,by simpa using hs⟩,?_⟩
    have e:=r.length;simp only[aT]at e;omega
def Inv.tuple(I:Inv X pins U H s)(h:SqT X.K H a xs):∃its:List ak,Vals xs its/\IsTup s.heap a its.toArray/\xs.length<=bg:=by
  rcases h with h|⟨o,its,n,hk,hc,hs,hz,r⟩
  . obtain⟨z,its,r,p⟩:=h.ok I.hok
    exact⟨its,r,p,z⟩
  . refine⟨its.toList,r,⟨o,I.kIn a o hk,hc,n,by simpa using hs⟩,?_⟩
    have e:=r.length;simp only[aT]at e;omega
def Inv.list_inj(I:Inv X pins U H s)(h:SqL X.K H a xs)(h':SqL X.K H a ys):xs=ys:=by
  obtain⟨its,r,⟨o,n,e,_,_,d⟩,_⟩:=I.list h;obtain⟨its',r',⟨o',n',e',_,_,d'⟩,_⟩:=I.list h';rw[e]at e';cases e';rw[d]at d'
  injection d' with d1 _
  have:its=its':=by simpa using dH Array.toList d1
  subst this;exact r.inj r'
end
abbrev Cx.wish(X:Cx)(E:ak->au->Prop):Cx:={X with xe:=E}
abbrev Cx.nox(X:Cx):Cx:=X.wish λ_ _=>False
theorem Cx.Ok.wish{X:Cx}(ok:X.Ok)(E:ak->au->Prop):(X.wish E).Ok:=
  ⟨ok.mod,ok.kind,ok.glob,ok.blt,ok.above,ok.inj,ok.has,ok.cab,ok.hd,ok.frames,ok.stk,ok.exf,ok.bs,ok.bsz,ok.noex,ok.exfs,ok.funs,ok.frf,ok.tabs⟩
def Cx.Ok.unwish{X:Cx}(ok:(X.wish E).Ok):X.Ok:=
  ⟨ok.mod,ok.kind,ok.glob,ok.blt,ok.above,ok.inj,ok.has,ok.cab,ok.hd,ok.frames,ok.stk,ok.exf,ok.bs,ok.bsz,ok.noex,ok.exfs,ok.funs,ok.frf,ok.tabs⟩
section
variable {X:Cx}{pins:List (aw×fV)}{U:St}{H:Hp}{s:au}{E:ak->au->Prop}
theorem Inv.wish(I:Inv X pins U H s)(E:ak->au->Prop):Inv (X.wish E) pins U H s:=⟨I.ok.wish E,I.os,I.bare,I.base,I.loc,I.cell,I.free,I.freeC,I.pin,I.hok,I.len⟩
theorem Inv.unwish(I:Inv (X.wish E) pins U H s):Inv X pins U H s:=⟨I.ok.unwish,I.os,I.bare,I.base,I.loc,I.cell,I.free,I.freeC,I.pin,I.hok,I.len⟩
theorem SP.unwish(h:SP (X.wish E) pins D f s'):SP X pins D f s':=by
  cases f with
  |next=>obtain⟨U',H',I,q⟩:=h;exact⟨U',H',I.unwish,q⟩
  |brk=>obtain⟨U',H',I,q⟩:=h;exact⟨U',H',I.unwish,q⟩
  |cont=>obtain⟨U',H',I,q⟩:=h;exact⟨U',H',I.unwish,q⟩
  |ret u=>obtain⟨v,U',H',I,r,q⟩:=h;exact⟨v,U',H',I.unwish,r,q⟩
theorem PSs.nox{st:List gx}{t:TS}(h:PSs X.nox st t):PSs X st t:=λpins s U H D I hw=>
  dh (h pins s U H D (I.wish _) hw) (λ_ _ q=>q.unwish) λ_ _ z=>cx z
end
section
variable {X:Cx}{st:gx}{rest:List gx}{t u:TS}{e:Expr}{te:TE}{pos:fS}
def c1l:TS:=λD U H=>D.nx U H
def c3a(t u:TS):TS:=λD U H=>t {D with nx:=u D} U H
def b6d:PSs X [] c1l:=λ_ _ U H _ I h=>jW ⟨U,H,I,h⟩
def Q9(h1:PS X st t)(h2:PSs X rest u):PSs X (st::rest) (c3a t u):=by
  intro pins s U H D I h;refine wpAny_execs_cons (thn (h1 pins s U H {D with nx:=u D} I h) λf s1 q=>?_);cases f with
  |next=>
    obtain⟨U',H',I',q⟩:=q;exact h2 pins s1 U' H' D I' q
  |ret v=>exact q
  |brk=>exact q
  |cont=>exact q
def a9P(h1:PS X st t):PSs X [st] t:=by
  intro pins s U H D I h;refine wpAny_execs_cons (thn (h1 pins s U H D I h) λf s1 q=>?_);cases f with
  |next=>exact jW q
  |ret v=>exact q
  |brk=>exact q
  |cont=>exact q
def Inv.quiet{pins:List (aw×fV)}{U:St}{H:Hp}{s:au}(I:Inv X pins U H s):interactive X.env=yH:=by simp[interactive,I.ok.kind]
def c1m(te:TE):TS:=λD U H=>te U H λ_ H1=>D.nx U H1
def P3(he:PE X e te)(hs:eR e xn pos.line X.env=pure yH:=by rfl):PS X (.Expr e pos) (c1m te):=by
  intro pins s U H D I h;exact wpAny_Expr_any (thn (he pins s U H _ I h) λv s1 ⟨x,H1,I1,r1,q1⟩=>⟨U,H1,I1,q1⟩) I.quiet hs
def c3b(te:TE):TS:=λD U H=>te U H D.rt
def b8P(he:PE X e te):PS X (.Return (cz e) pos) (c3b te):=by
  intro pins s U H D I h;exact wpAny_Return_some (thn (he pins s U H _ I h) λv s1 ⟨x,H1,I1,r1,q1⟩=>⟨x,U,H1,I1,r1,q1⟩)
def c3c(c:TT)(t u:TS):TS:=λD U H=>c U H λb H1=>if b=yn then t D U H1 else u D U H1
def b8m{c:Expr}{a b:List gx}{tc:TT}(hc:PT X c tc)(ha:PSs X a t)(hb:PSs X b u):PS X (.If c a b pos) (c3c tc t u):=by
  intro pins s U H D I h;refine wpAny_If (thn (hc pins s U H _ I h) λd s1 ⟨H1,I1,q1⟩=>?_);cases d with
  |true=>exact ha pins s1 U H1 D I1 q1
  |false=>exact hb pins s1 U H1 D I1 q1
def b8Q:TS:=λ_ _ _=>False
def b2T:PS X st b8Q:=λ_ _ _ _ _ _ h=>h.elim
end
abbrev TG:=V->St->Hp->(St->Hp->Prop)->Prop
abbrev TGs:=List V->St->Hp->(St->Hp->Prop)->Prop
def PG(X:Cx)(target:Expr)(t:TG):Prop:=
  ∀(pins:List (aw×fV)) (s:au) (U:St) (H:Hp) (v:V) (u:ak) (Q:St->Hp->Prop),Inv X pins U H s->RelV v u->t v U H Q->
    aZ (aX X.prog X.w) X.A (pZ target X.env u) (λ_ s'=>∃U' H',Inv X pins U' H' s'/\Q U' H') X.xe s
def PGs(X:Cx)(ts:List Expr)(t:TGs):Prop:=
  ∀(pins:List (aw×fV)) (s:au) (U:St) (H:Hp) (vs:List V) (us:List ak) (Q:St->Hp->Prop),Inv X pins U H s->Vals vs us->t vs U H Q->
    aZ (aX X.prog X.w) X.A (assignInOrder ((iM ts X.env).map (·.2)) us) (λ_ s'=>∃U' H',Inv X pins U' H' s'/\Q U' H') X.xe s
abbrev TIp:=V->V->Hp->VK->Prop
def PIp(X:Cx)(op:Operator)(t:TIp):Prop:=
  ∀(pins:List (aw×fV)) (s:au) (U:St) (H:Hp) (x y:V) (v u:ak) (Q:VK),Inv X pins U H s->RelV x v->RelV y u->t x y H Q->
    aZ (aX X.prog X.w) X.A (inplaceOp op v u) (EP X pins U Q) X.xe s
section
variable {X:Cx}{pos:fS}
def M7(i:Nat):TG:=λv U H Q=>Q (U.set i (cz v)) H
def p5(hN:X.N.Nodup)(hi:X.N[i]?=cz x)(hx:Loc X.env.scope x)(hf:autoParam (X.fn x=yn\/X.env.scope.names.lookup x=cz .local) ZZ._auto_1):PG X (.Name x pos) (M7 i):=by
  intro pins s U H v u Q I r h;exact wpAny_assign_Name (W7 I hN hi hx r (λs' I'=>⟨_,H,I',h⟩) hf)
def b6e:TGs:=λvs U H Q=>vs=[]/\Q U H
def a2Y(t:TG)(u:TGs):TGs:=λvs U H Q=>∃v r,vs=v::r/\t v U H λU' H'=>u r U' H' Q
def a0a:PGs X [] b6e:=by
  intro pins s U H vs us Q I r h;obtain⟨e,h⟩:=h;subst e;cases r
  exact assignInOrder_nil ⟨U,H,I,h⟩
def y7{e:Expr}{es:List Expr}{t:TG}{u:TGs}(h1:PG X e t)(h2:PGs X es u)
    (hs:(iM (e::es) X.env).map (·.2)=pZ e X.env::(iM es X.env).map (·.2):=by rfl):PGs X (e::es) (a2Y t u):=by
  intro pins s U H vs us Q I r h;obtain⟨v,vr,e1,h⟩:=h;subst e1;cases r with
  |cons r rr=>
    rw[hs];refine assignInOrder_cons (thn (h1 pins s U H _ _ _ I r h) λ_ s1 ⟨U1,H1,I1,q1⟩=>?_);exact h2 pins s1 U1 H1 _ _ Q I1 rr q1
def b8R(K:ae)(n:Nat)(t:TGs):TG:=λv U H Q=>∃a xs,v=.ref a/\SqT K H a xs/\xs.length=n/\t xs U H Q
def a2Z(hc:X.calm=yn)(h:PGs X es t)
    (hn:(iM es X.env).length=n:=by rfl) (mS:(iM es X.env).findIdx? (·.1)=xn:=by rfl):PG X (.Tuple es k pos) (b8R X.K n t):=by
  intro pins s U H v u Q I r hw;obtain⟨a,xs,e1,hq,hl,hw⟩:=hw;subst e1;cases r
  obtain⟨its,rv,ht,hz⟩:=I.tuple hq;refine assign_Tuple_tuple (I.ok.hd hc) ht (by simp[hn,<-hl,rv.length]) mS λh' hx=>?_
  have I1:Inv X pins U H {s with heap:=h'}:=I.kept (t':=s.toks) λb o e=>hx b o (bI (aS e)) e
  exact h pins _ U H xs _ Q I1 (by simpa using rv) hw
def b8S(te:TE)(g:TG):TS:=λD U H=>te U H λx H1=>g x U H1 D.nx
def b8T{tg e:Expr}{te:TE}{g:TG}(he:PE X e te)(hg:PG X tg g)(hs:swapsWithSole [tg] e pos.line X.env=pure yH:=by rfl)(hw:swappedStores [tg] e X.env=pure xn:=by rfl)
    (h1:(iM [tg] X.env).map (·.2)=[pZ tg X.env]:=by rfl):PS X (.Assign [tg] e pos) (b8S te g):=by
  intro pins s U H D I h;refine wpAny_Assign_stores (thn (he pins s U H _ I h) λv s1 qz=>?_) hs hw;obtain⟨x,H1,I1,r1,q1⟩:=qz;rw[h1];exact thn (hg pins s1 U H1 x v _ I1 r1 q1) λ_ s2 q=>q
def a8k{i:Nat}{x:bA}{e:Expr}{te:TE}{pos':fS}(hN:X.N.Nodup)(hi:X.N[i]?=cz x)(hx:Loc X.env.scope x)(he:PE X e te)(hs:eR e (cz (.Name x pos')) pos.line X.env=pure yH:=by rfl)(hf:autoParam (X.fn x=yn\/X.env.scope.names.lookup x=cz .local) ZZ._auto_1) :
    PS X (.Assign [.Name x pos'] e pos) (b8S te (M7 i)):=by
  intro pins s U H D I h;refine wpAny_Assign_Name (thn (he pins s U H _ I h) λv s1 qz=>?_) hs;obtain⟨y,H1,I1,r1,q1⟩:=qz;exact W7 I1 hN hi hx r1 (λs2 I2=>⟨_,H1,I2,q1⟩) hf
def c3d(i:Nat)(te:TE)(ti:TIp):TS:=λD U H=>∃x,U[i]?=cz (cz x)/\te U H λy H1=>ti x y H1 λz H2=>D.nx (U.set i (cz z)) H2
def b8U{i:Nat}{x:bA}{e:Expr}{te:TE}{op:Operator}{ti:TIp}{pos':fS}(hN:X.N.Nodup)(hi:X.N[i]?=cz x)(hx:Loc X.env.scope x)(he:PE X e te)(ho:PIp X op ti)(hf:autoParam (X.fn x=yn\/X.env.scope.names.lookup x=cz .local) ZZ._auto_1) :
    PS X (.AugAssign (.Name x pos') op e pos) (c3d i te ti):=by
  intro pins s U H D I h;obtain⟨v,e1,h⟩:=h;obtain⟨m,hn,hl⟩:=I.loc;have CG:Vis X.env.scope x:=by rcases hx with k|k;exact .inl k;exact .inr (.inl k)
  obtain⟨u,r,l⟩:=hl i x v hi e1 CG;refine wpAny_AugAssign_Name ?_;have go:aZ (aX X.prog X.w) X.A (cD e X.env) (λw s₂=>aZ (aX X.prog X.w) X.A (inplaceOp op u w) (λr s₃=>aZ (aX X.prog X.w) X.A (storeName X.env x r) (λ_=>SP X pins D .next) X.xe s₃) X.xe s₂) X.xe s:=by
    refine thn (he pins s U H _ I h) λw s1 qz=>?_
    obtain⟨y,H1,I1,r1,q1⟩:=qz;refine thn (ho pins s1 U H1 v y u w _ I1 r r1 q1) λz s2 qz=>?_
    obtain⟨zv,H2,I2,r2,q2⟩:=qz;exact W7 I2 hN hi hx r2 (λs3 I3=>⟨_,H2,I3,q2⟩) hf
  rcases l with⟨hk,hm⟩|⟨hk,c,hc,mV⟩
  . exact wpAny_loadName_local I.ok.kind hk hn hm go
  . rcases hk with hk|hk
    . exact wpAny_loadName_cell I.ok.kind hk hc mV go
    . rcases hx with k|k
      . have:X.env.scope.names.lookup x=cz .free:=hk
        rw[k]at this;cases this
      . have:X.env.scope.names.lookup x=cz .free:=hk
        rw[k]at this;cases this
def ipI(f:Int->Int->Int):TIp:=λx y H Q=>∃i j,x=.int i/\y=.int j/\Q (.int (f i j)) H
def b8V:PIp X .Add (ipI λi j=>i+j):=by
  intro pins s U H x y v u Q I r1 r2 h;obtain⟨i,j,e1,e2,q⟩:=h;subst e1;subst e2;obtain⟨t,rfl⟩:=r1;obtain⟨t',rfl⟩:=r2;exact iadd_int ⟨.int _,H,I.tok _,⟨_,rfl⟩,q⟩
def b8W(c:TT)(tb:TS):TS:=λD U H=>∃W:Nat->St->Hp->Prop,(∃m,W m U H)/\∀m U H,W m U H->
  c U H λb H1=>if b=yn then ∃N:St->Hp->Prop,(∀U' H',N U' H'->∃m',m'<m/\W m' U' H')/\tb {D with nx:=N,ct:=N,bk:=D.nx} U H1 else D.nx U H1
def b2U{c:Expr}{body:List gx}{tc:TT}{tb:TS}(hp:oJ (aX X.prog X.w) X.A X.env X.xe)(hc:PT X c tc)(hb:PSs X body tb):PS X (.While c body [] pos) (b8W tc tb):=by
  intro pins s U H D I h;obtain⟨W,⟨m0,w0⟩,turn⟩:=h;refine wpAny_While (codeAny_whileLoop (λn s'=>∃U' H',Inv X pins U' H' s'/\W n U' H') ?_ m0 ⟨U,H,I,w0⟩);rintro n s1 ⟨U1,H1,I1,w1⟩;refine gJ hp (thn (hc pins s1 U1 H1 _ I1 (turn n U1 H1 w1)) λb s2 ⟨H2,I2,q2⟩=>?_);cases b with
  |true=>
    obtain⟨N,hN,q2⟩:=q2;rw[aE rfl];refine gJ hp (thn (hb pins s2 U1 H2 _ I2 q2) λf s3 q3=>?_);cases f with
    |next=>
      obtain⟨U3,H3,I3,n3⟩:=q3;obtain⟨m',hm,w3⟩:=hN U3 H3 n3;exact⟨m',hm,U3,H3,I3,w3⟩
    |cont=>
      obtain⟨U3,H3,I3,n3⟩:=q3;obtain⟨m',hm,w3⟩:=hN U3 H3 n3;exact⟨m',hm,U3,H3,I3,w3⟩
    |brk=>exact q3
    |ret v=>exact q3
  |false=>
    rw[aM cj];exact jW ⟨U1,H2,I2,q2⟩
end
structure It where
  go:Nat->Hp->Prop
  yld:Nat->Hp->V->Hp->Prop
  stop:Nat->Hp->Prop
def a4z(X:Cx)(pins:List (aw×fV))(H:Hp)(b:aw):Prop:=
  H b=xn/\b≠X.env.locals/\b∉X.fs/\(b∈X.ex\/X.s₀.heap.objs.size<=b)/\(∀x c,X.env.cells.lookup x=cz c->c≠b)/\∀p∈X.pn++pins,p.1≠b
def Inv.fpOk(I:Inv X pins U H s)(hb:s.heap.objs.size<=b)(hn:H' b=xn):a4z X pins H' b:=by
  refine⟨hn,jC (bb I.lt hb),I.nofs hb,.inr (cR I.sz hb),λx c e z=>?_,λp hp z=>?_⟩
  . obtain⟨v,q⟩:=I.cell x c e
    exact absurd (bb q.lt (by rw[z];exact hb)) (dA _)
  . exact absurd (bb (aS (I.pin p hp).1) (by rw[z];exact hb)) (dA _)
structure Turn (P:bu) (w:bV) (K:ae) (tg:Expr) (J:It) (fp:List aw) (it:aw) (tn:Nat->cB->Prop):Prop where
  mem:it∈fp
  obj:∀i h,tn i h->∀b∈fp,∃o,h.get? b=cz o/\∀v,o.data≠.cell v
  keep:∀i h h',tn i h->(∀b∈fp,∀o,h.get? b=cz o->h'.get? b=cz o)->tn i h'
  item:∀(X:Cx),X.prog=P->X.w=w->X.K=K->X.calm=yn->∀(i:Nat) (pins:List (aw×fV)) (s:au) (U:St) (H:Hp) (E:ak->au->Prop),Inv X pins U H s->(∀b∈fp,a4z X pins H b)->tn i s.heap->J.go i H->
    aZ (aX P w) X.A (vA (.ref it)) (λr s1=>∃u,r=cz u/\
      aZ (aX P w) X.A (mR tg (.ref it) u) (λ_ s2=>∃x H',Inv X pins U H' s2/\RelV x u/\J.yld i H x H'/\tn (i+1) s2.heap/\∀b∈fp,H' b=xn) E s1) E s
  done:∀(X:Cx),X.prog=P->X.w=w->X.K=K->X.calm=yn->∀(i:Nat) (pins:List (aw×fV)) (s:au) (U:St) (H:Hp) (E:ak->au->Prop),Inv X pins U H s->(∀b∈fp,a4z X pins H b)->tn i s.heap->J.stop i H->
    aZ (aX P w) X.A (vA (.ref it)) (λr s1=>r=xn/\Inv X pins U H s1) E s
  self:∀(A:bP) (i:Nat) (s:au) (Q:ak->au->Prop) (E:ak->au->Prop),tn i s.heap->Q (.ref it) s->aZ (aX P w) A (pyIter (.ref it)) Q E s
abbrev TI:=St->Hp->(It->Hp->Prop)->Prop
def PIE(X:Cx)(pins:List (aw×fV))(U:St)(tg:Expr)(R:It->Hp->Prop)(yP:ak)(s2:au):Prop:=
  ∃(it:aw) (fp:List aw) (tn:Nat->cB->Prop) (J:It) (H':Hp),yP=.ref it/\Inv X pins U H' s2/\Turn X.prog X.w X.K tg J fp it tn/\tn 0 s2.heap/\(∀b∈fp,a4z X pins H' b)/\R J H'
def PI(X:Cx)(tg iter:Expr)(wi:TI):Prop:=
  ∀(pins:List (aw×fV)) (s:au) (U:St) (H:Hp) (R:It->Hp->Prop),Inv X pins U H s->wi U H R->
    aZ (aX X.prog X.w) X.A (cD iter X.env) (λv s1=>aZ (aX X.prog X.w) X.A (pyIter v) (PIE X pins U tg R) X.xe s1) X.xe s
def b2V{s:au}(ho:s.heap.get? it=cz o)(hc:o.cls=.type n)(hd:o.data=.fields vs)
    (hn:["enumerate","zip","dict_itemiterator","dict_reverseitemiterator","odict_iterator","itertools.zip_longest","itertools.pairwise"].contains n=yH) (hQ:Q () s):aZ M A (mR tg (.ref it) u) Q E s:=by
  unfold mR;cases tg<;>first
    |exact aC hQ
    | (cases u<;>first
        |exact aC hQ
        | (refine af (wpAny_load ho ?_)
           rw[hc,hd];show aZ M A (if (["enumerate","zip","dict_itemiterator","dict_reverseitemiterator","odict_iterator","itertools.zip_longest","itertools.pairwise"].contains n&&vs[0]?==cz (jy _))=yn then _ else _) Q E s;rw[aM (by intro h;rw[hn,Bool.false_and]at h;cases h)];exact aC hQ))
def Itl(K:ae)(a:aw):It:=
  ⟨λi H=>∃xs x,SqL K H a xs/\xs[i]?=cz x,λi H x H'=>H'=H/\∀xs,SqL K H a xs->xs[i]?=cz x,λi H=>∃xs,SqL K H a xs/\xs.length<=i⟩
def Itr(lo:Int)(n:Nat):It:=⟨λi _=>i<n,λi H x H'=>H'=H/\x=.int (lo+i),λi _=>n<=i⟩
def b1d{P:bu}{w:bV}{K:ae}{tg:Expr}(a it:aw):Turn P w K tg (Itl K a) [it] it (λi h=>h.IsListIter it a i) where
  mem:=by simp
  obj:=λi h st b hb=>by
    have e:b=it:=by simpa using hb
    subst e;obtain⟨o,e,c,d⟩:=st;exact⟨o,e,λv z=>by rw[d]at z;cases z⟩
  keep:=λi h h' st k=>st.at λo e=>k it (by simp) o e
  item:=by
    intro X hP hw hK hc i pins s U H E I hf st hg;subst hP hw hK;obtain⟨xs,x,hq,hx⟩:=hg;obtain⟨its,rv,p,hz⟩:=I.list hq;obtain⟨u,hu,ru⟩:=rv.get hx;obtain⟨f0,f1,f2,f3,f4,f5⟩:=hf it (by simp);refine wpAny_pyNext_list_item st p.isList (x:=u) (by simpa using hu) λh' cL sb=>?_
    have I1:Inv X pins U H {s with heap:=h'}:=I.turned (t':=s.toks) (λb o hb e=>(sb.2 b hb).trans e) f0 f1 f3 f4 f5;obtain⟨o,e,c,d⟩:=id cL;exact⟨u,rfl,b2V (s:={s with heap:=h'}) e c d (by decide) ⟨x,H,I1,ru,⟨rfl,λys hy=>by rw[I.list_inj hy hq];exact hx⟩,cL,λb hb=>(hf b hb).1⟩⟩
  done:=by
    intro X hP hw hK hc i pins s U H E I hf st hg;subst hP hw hK;obtain⟨xs,hq,hx⟩:=hg;obtain⟨its,rv,p,hz⟩:=I.list hq;obtain⟨f0,f1,f2,f3,f4,f5⟩:=hf it (by simp);have hl:=rv.length;exact wpAny_pyNext_list_end (I.ok.hd hc) st p.isList (by simp;omega) λh' eb=>⟨rfl,I.turned (t':=s.toks) (λb o hb e=>eb b o hb e) f0 f1 f3 f4 f5⟩
  self:=λ_ _ _ _ _ st h=>wpAny_pyIter_listiter st h
def a8l{P:bu}{w:bV}{K:ae}{tg:Expr}(it:aw)(lo:Int)(n:Nat):Turn P w K tg (Itr lo n) [it] it (λi h=>IsRangeIter h it (lo+(i:Nat)*1) ((n:Int)-(i:Nat)) 1) where
  mem:=by simp
  obj:=λi h st b hb=>by
    have e:b=it:=by simpa using hb
    subst e;exact⟨_,st,λv z=>by
      have z':Data.fields _=Data.cell v:=z;cases z'⟩
  keep:=λi h h' st k=>k it (by simp) _ st
  item:=by
    intro X hP hw hK hc i pins s U H E I hf st hg;subst hP hw hK;obtain⟨f0,f1,f2,f3,f4,f5⟩:=hf it (by simp);have W:=Walks.range (prog:=X.prog) (w:=X.w) (I.ok.hd hc) it lo 1 n;refine W.item i s _ _ hg st λv h' tk hv cL kk=>?_
    obtain⟨t,rfl⟩:=hv;have I1:Inv X pins U H {s with heap:=h',toks:=tk}:=I.turned (λb o hb e=>kk b o (by simpa using hb) e) f0 f1 f3 f4 f5;refine⟨_,rfl,b2V (s:={s with heap:=h',toks:=tk}) (n:="range_iterator") cL rfl rfl (by decide) ⟨.int (lo+i),H,I1,⟨t,?_⟩,⟨rfl,rfl⟩,cL,λb hb=>(hf b hb).1⟩⟩;rw[Int.mul_one]
  done:=by
    intro X hP hw hK hc i pins s U H E I hf st hg;subst hP hw hK;obtain⟨f0,f1,f2,f3,f4,f5⟩:=hf it (by simp);exact wpAny_pyNext_range_end (I.ok.hd hc) st (by have:n<=i:=hg;omega) λh' eb=>⟨rfl,I.turned (t':=s.toks) (λb o hb e=>eb b o hb e) f0 f1 f3 f4 f5⟩
  self:=λ_ _ _ _ _ st h=>wpAny_pyIter_rangeiter st h
section
variable {X:Cx}{tg:Expr}
def c1n(K:ae)(tl:TE):TI:=λU H R=>tl U H λx H1=>∃a,x=.ref a/\(∃xs,SqL K H1 a xs)/\R (Itl K a) H1
def b6f{l:Expr}{tl:TE}(hl:PE X l tl):PI X tg l (c1n X.K tl):=by
  intro pins s U H R I h;refine thn (hl pins s U H _ I h) λv s1 qz=>?_
  obtain⟨x,H1,I1,r1,q1⟩:=qz;obtain⟨a,e,⟨xs,hq⟩,q⟩:=q1;subst e;cases r1
  obtain⟨its,rv,p,hz⟩:=I1.list hq;refine wpAny_pyIter_list p.isList ?_;refine⟨s1.heap.objs.size,[s1.heap.objs.size],_,_,H1,rfl,I1.kept (t':=s1.toks) λb o e=>aF _ e,b1d a _,⟨_,bo _ rfl,rfl,rfl⟩,λb hb=>?_,q⟩;have e:b=s1.heap.objs.size:=by simpa using hb
  subst e;exact I1.fpOk (aA _) (I1.hok.fresh (aA _))
def b2W{pins:List (aw×fV)}{U:St}{H:Hp}{s:au}{R:It->Hp->Prop}{E:ak->au->Prop}{lo hi:Int}{t u v:Tok}{tk:Nat}(I:Inv X pins U H s)(h1:-(2^62)<=lo)(h2:lo<2^62)(h3:-(2^62)<=hi)(h4:hi<2^62)
    (q:R (Itr lo (hi-lo).toNat) H):aZ (aX X.prog X.w) X.A (pyIter (.ref s.heap.objs.size)) (PIE X pins U tg R) E {s with heap:=s.heap.push {cls:=.type "range",data:=.fields #[.int lo t,.int hi u,.int 1 v]},toks:=tk}:=by
  refine wpAny_pyIter_range (IsRange.new ..) (small_one h1 h2 h3 h4) ?_;have I1:Inv X pins U H {s with heap:=s.heap.push {cls:=.type "range",data:=.fields #[.int lo t,.int hi u,.int 1 v]},toks:=tk}:=I.kept λb o e=>aF _ e
  refine⟨(s.heap.push {cls:=.type "range",data:=.fields #[.int lo t,.int hi u,.int 1 v]}).objs.size,[(s.heap.push {cls:=.type "range",data:=.fields #[.int lo t,.int hi u,.int 1 v]}).objs.size],_,_,H,rfl,
    I1.kept (t':=tk) λb o e=>aF _ e,a8l _ lo (hi-lo).toNat,?_,λb hb=>?_,q⟩
  . have e1:lo+((0:Nat):Int)*1=lo:=by simp
    have e2:(((hi-lo).toNat:Nat):Int)-((0:Nat):Int)=Builtin.Range.rangeSize lo hi 1:=by rw[rangeSize_one];split<;>omega
    show IsRangeIter _ _ (lo+((0:Nat):Int)*1) ((((hi-lo).toNat:Nat):Int)-((0:Nat):Int)) 1;rw[e1,e2];exact bo _ rfl
  . have e:b=(s.heap.push {cls:=.type "range",data:=.fields #[.int lo t,.int hi u,.int 1 v]}).objs.size:=by simpa using hb
    subst e;exact I1.fpOk (aA _) (I1.hok.fresh (aA _))
def c1o(ta:TA):TI:=λU H R=>ta U H λvs H1=>∃j:Int,vs=[.int j]/\-(2^62)<=j/\j<2^62/\R (Itr 0 j.toNat) H1
def b1e{a:Expr}{ta:TA}{p pos:fS}(hg:Gl X "range")(hm:X.mg "range"=xn)(ha:PA X [a] ta)(hs:aq [a] X.env=[(yH,cD a X.env)]:=by rfl):PI X tg (.Call (.Name "range" p) [a] [] pos) (c1o ta):=by
  intro pins s U H R I h;refine Call_ (a0G I hg hm boot_range (gE (thn (ha pos pins s U H _ I h) λus s1 qz=>?_) hs rfl));obtain⟨vs,H1,I1,r1,q1⟩:=qz;obtain⟨j,e,q1,q2,q⟩:=q1;subst e;cases r1 with
  |cons r rr=>
    cases rr
    obtain⟨t,rfl⟩:=r;exact call_range_1 (b2W I1 (by omega) (by omega) q1 q2 (by simpa using q))
def c3e(wi:TI)(g:TG)(tb:TS):TS:=λD U H=>wi U H λJ H1=>∃W:Nat->Nat->St->Hp->Prop,(∃m,W 0 m U H1)/\∀i m U H,W i m U H->
  (J.stop i H/\D.nx U H)\/(J.go i H/\∃N:St->Hp->Prop,(∀U' H',N U' H'->∃m',m'<m/\W (i+1) m' U' H')/\∀x H',J.yld i H x H'->g x U H' λU2 H2=>tb {D with nx:=N,ct:=N,bk:=D.nx} U2 H2)
def a5Q(fp:List aw)(h:cB):List (aw×fV):=fp.filterMap λb=>(h.get? b).map λo=>(b,o)
def D6{h:cB}(hb:b∈fp)(e:h.get? b=cz o):(b,o)∈a5Q fp h:=dJ.mpr ⟨b,hb,by rw[e];rfl⟩
def b1f(hp:p∈a5Q fp h):p.1∈fp/\h.get? p.1=cz p.2:=by
  obtain⟨b,hb,e⟩:=dJ.mp hp;cases q:h.get? b with
  |none=>rw[q]at e;cases e
  |some o=>
    rw[q]at e;have e':(b,o)=p:=aK e;subst e';exact⟨hb,q⟩
def Inv.pinned(I:Inv X pins U H s)(hf:∀b∈fp,a4z X pins H b)(ho:∀b∈fp,∃o,s.heap.get? b=cz o/\∀v,o.data≠.cell v):Inv X (pins++a5Q fp s.heap) U H s:=
  I.pins_of λp hp=>(av.mp hp).elim (λz=>I.pin p (ai _ z)) λz=>by
    obtain⟨hb,e⟩:=b1f z;obtain⟨f0,f1,f2,_⟩:=hf p.1 hb;obtain⟨o,e',d⟩:=ho p.1 hb;rw[e]at e';cases e';exact⟨e,f0,f1,f2,d⟩
def Inv.unpinned(I:Inv X (pins++pl) U H s):Inv X pins U H s:=I.pins_of λp hp=>I.pin p (ai _ (ao _ hp))
def a8m(hp:oJ (aX X.prog X.w) X.A X.env X.xe)(hc:X.calm=yn)(hi:PI X tg iter wi)(hg:PG X tg g)(hb:PSs X body tb)
    (hs:∀x,eK iter X.env x=pure x:=by intro _;rfl):PS X (.For tg iter body [] pos) (c3e wi g tb):=by
  intro pins s U H D I h;refine wpAny_For (thn (hi pins s U H _ I h) λv s1 h1=>thn h1 λyP s2 h2=>?_) hs;obtain⟨it,fp,tn,J,H2,e,I2,T,lh,f2,W,⟨m0,w0⟩,turn⟩:=h2;subst e;have oN:∀{H':Hp},(∀b∈fp,H' b=xn)->∀b∈fp,a4z X pins H' b:=λhn b hb=>⟨hn b hb,(f2 b hb).2⟩
  refine codeAny_forLoop_any (λn s'=>∃i U' H',Inv X pins U' H' s'/\tn i s'.heap/\(∀b∈fp,H' b=xn)/\W i n U' H') ?_ m0 ⟨0,U,H2,I2,lh,λb hb=>(f2 b hb).1,w0⟩;rintro n s3 ⟨i,U3,H3,I3,jx,xg,w3⟩;rcases turn i n U3 H3 w3 with⟨stop,qn⟩|⟨go,N,hN,step⟩
  . refine gJ hp (thn (T.done X rfl rfl rfl hc i pins s3 U3 H3 X.xe I3 (oN xg) jx stop) λr s4 ⟨hr,I4⟩=>?_)
    subst hr;exact jW ⟨U3,H3,I4,qn⟩
  . refine gJ hp (thn (T.item X rfl rfl rfl hc i pins s3 U3 H3 X.xe I3 (oN xg) jx go) λr s4 ⟨u,hr,h4⟩=>?_)
    subst hr;refine gJ hp (thn h4 λ_ s5 qz=>?_);obtain⟨x,H5,I5,r5,y5,qE,Ao⟩:=qz;have AK:=I5.pinned (oN Ao) (T.obj _ _ qE);refine gJ hp (thn (hg _ s5 U3 H5 x u _ AK r5 (step x H5 y5)) λ_ s6 ⟨U6,H6,I6,q6⟩=>?_);refine gJ hp (thn (hb _ s6 U6 H6 _ I6 q6) λf s7 q7=>?_);have again:∀{U7:St} {H7:Hp},Inv X (pins++a5Q fp s5.heap) U7 H7 s7->N U7 H7->∃m,m<n/\∃i U' H',Inv X pins U' H' s7/\tn i s7.heap/\(∀b∈fp,H' b=xn)/\W i m U' H':=λ{U7 H7} I7 n7=>by
      obtain⟨m',hm,w7⟩:=hN U7 H7 n7;refine⟨m',hm,i+1,U7,H7,I7.unpinned,T.keep _ _ _ qE λb hb o e=>(I7.pin (b,o) (ai _ (ai _ (D6 hb e)))).1,λb hb=>?_,w7⟩;obtain⟨o,e,d⟩:=T.obj _ _ qE b hb;exact (I7.pin (b,o) (ai _ (ai _ (D6 hb e)))).2.1
    cases f with
    |next=>obtain⟨U7,H7,I7,n7⟩:=q7;exact again I7 n7
    |cont=>obtain⟨U7,H7,I7,n7⟩:=q7;exact again I7 n7
    |brk=>obtain⟨U7,H7,I7,q7⟩:=q7;exact⟨U7,H7,I7.unpinned,q7⟩
    |ret v=>obtain⟨x7,U7,H7,I7,r7,q7⟩:=q7;exact⟨x7,U7,H7,I7.unpinned,r7,q7⟩
end
abbrev R2:=V->V->Hp->VK->Prop
def OpR(X:Cx)(f:ak->ak->AD ak)(r:R2):Prop:=
  ∀(pins:List (aw×fV)) (s:au) (U:St) (H:Hp) (x y:V) (v u:ak) (Q:VK),Inv X pins U H s->RelV x v->RelV y u->r x y H Q->
    aZ (aX X.prog X.w) X.A (f v u) (EP X pins U Q) X.xe s
def UnR(X:Cx)(f:ak->AD ak)(r:V->Hp->VK->Prop):Prop:=
  ∀(pins:List (aw×fV)) (s:au) (U:St) (H:Hp) (x:V) (v:ak) (Q:VK),Inv X pins U H s->RelV x v->r x H Q->
    aZ (aX X.prog X.w) X.A (f v) (EP X pins U Q) X.xe s
def CallR(X:Cx)(f:ak)(r:List V->Hp->VK->Prop):Prop:=
  ∀(pins:List (aw×fV)) (s:au) (U:St) (H:Hp) (xs:List V) (us:List ak) (Q:VK),Inv X pins U H s->Vals xs us->r xs H Q->
    aZ (aX X.prog X.w) X.A (call f us) (EP X pins U Q) X.xe s
def c3f(X:Cx)(r:V->Hp->(Bool->Hp->Prop)->Prop):Prop:=
  ∀(pins:List (aw×fV)) (s:au) (U:St) (H:Hp) (x:V) (v:ak) (Q:Bool->Hp->Prop),Inv X pins U H s->RelV x v->r x H Q->
    aZ (aX X.prog X.w) X.A (truthy v) (TP X pins U Q) X.xe s
def tOp(r:R2)(ta tb:TE):TE:=λU H Q=>ta U H λx H1=>tb U H1 λy H2=>r x y H2 Q
def tUn(r:V->Hp->VK->Prop)(ta:TE):TE:=λU H Q=>ta U H λx H1=>r x H1 Q
def rI(C:Int->Int->Prop)(g:Int->Int->V):R2:=λx y H Q=>∃i j,x=.int i/\y=.int j/\C i j/\Q (g i j) H
def rI0(g:Int->Int->V):R2:=λx y H Q=>∃i j,x=.int i/\y=.int j/\Q (g i j) H
def rU(g:Int->V):V->Hp->VK->Prop:=λx H Q=>∃i,x=.int i/\Q (g i) H
section
variable {X:Cx}{a b c:Expr}{ta tb tc:TE}{pos:fS}
def b8X(ha:PE X a ta)(hb:PE X b tb){pins:List (aw×fV)}{s:au}{U:St}{H:Hp}{R:V->V->Hp->Prop}(I:Inv X pins U H s)
    (h:ta U H λx H1=>tb U H1 λy H2=>R x y H2) {Q:ak->au->Prop} {f:ak->ak->AD ak}
    (hf:∀v u s2 x y H2,Inv X pins U H2 s2->RelV x v->RelV y u->R x y H2->aZ (aX X.prog X.w) X.A (f v u) Q X.xe s2) :
    aZ (aX X.prog X.w) X.A (cD a X.env) (λv s₁=>aZ (aX X.prog X.w) X.A (cD b X.env) (λu s₂=>aZ (aX X.prog X.w) X.A (f v u) Q X.xe s₂) X.xe s₁) X.xe s:=by
  refine thn (ha pins s U H _ I h) λv s1 qz=>?_
  obtain⟨x,H1,I1,r1,q1⟩:=qz;refine thn (hb pins s1 U H1 _ I1 q1) λu s2 qz=>?_
  obtain⟨y,H2,I2,r2,q2⟩:=qz;exact hf v u s2 x y H2 I2 r1 r2 q2
def b8n{op:Operator}{r:R2}(ho:OpR X (gc op) r)(ha:PE X a ta)(hb:PE X b tb):PE X (.BinOp a op b pos) (tOp r ta tb):=by
  intro pins s U H Q I h;exact wpAny_BinOp (b8X ha hb I h λv u s2 x y H2 I2 rx ry q=>ho pins s2 U H2 x y v u Q I2 rx ry q)
def c1p(ho:UnR X (unaryOp op) r)(ha:PE X a ta):PE X (.UnaryOp op a pos) (tUn r ta):=by
  intro pins s U H Q I h;exact UnaryOp_ (thn (ha pins s U H _ I h) λv s1 ⟨x,H1,I1,r1,q1⟩=>ho pins s1 U H1 x v Q I1 r1 q1)
def opI{f:ak->ak->AD ak}{C:Int->Int->Prop}{g:Int->Int->Int}
    (rule:∀(i j:Int) (t u:Tok) (s:au) (Q:ak->au->Prop) (E:ak->au->Prop),C i j->Q (.int (g i j) s.toks) {s with toks:=s.toks+1}->aZ (aX X.prog X.w) X.A (f (.int i t) (.int j u)) Q E s) :
    OpR X f (rI C λi j=>.int (g i j)):=by
  intro pins s U H x y v u Q I rx ry h;obtain⟨i,j,rfl,rfl,hc,q⟩:=h;obtain⟨t,rfl⟩:=rx;obtain⟨t',rfl⟩:=ry;exact rule i j t t' s _ _ hc ⟨.int (g i j),H,I.tok _,⟨_,rfl⟩,q⟩
def c1q{f:ak->ak->AD ak}{g:Int->Int->Int}
    (rule:∀(i j:Int) (t u:Tok) (s:au) (Q:ak->au->Prop) (E:ak->au->Prop),Q (.int (g i j) s.toks) {s with toks:=s.toks+1}->aZ (aX X.prog X.w) X.A (f (.int i t) (.int j u)) Q E s) :
    OpR X f (rI0 λi j=>.int (g i j)):=by
  intro pins s U H x y v u Q I rx ry h;obtain⟨i,j,rfl,rfl,q⟩:=h;obtain⟨t,rfl⟩:=rx;obtain⟨t',rfl⟩:=ry;exact rule i j t t' s _ _ ⟨.int (g i j),H,I.tok _,⟨_,rfl⟩,q⟩
def b8Y{f:ak->ak->AD ak}{g:Int->Int->Bool}
    (rule:∀(i j:Int) (t u:Tok) (s:au) (Q:ak->au->Prop) (E:ak->au->Prop),Q (.bool (g i j)) s->aZ (aX X.prog X.w) X.A (f (.int i t) (.int j u)) Q E s) :
    OpR X f (rI0 λi j=>.bl (g i j)):=by
  intro pins s U H x y v u Q I rx ry h;obtain⟨i,j,rfl,rfl,q⟩:=h;obtain⟨t,rfl⟩:=rx;obtain⟨t',rfl⟩:=ry;exact rule i j t t' s _ _ ⟨.bl (g i j),H,I,rfl,q⟩
def c3g(i j:Int):Prop:=0<j/\j<1073741824
def c3h(i j:Int):Prop:=0<=j/\j<=1000000/\i.natAbs<2^64
def CMul(i j:Int):Prop:=(-(2^64)<i/\i<2^64)\/(-(2^64)<j/\j<2^64)
def CMul.ok{i j:Int}(h:CMul i j):IntMulOk i j:=by
  rcases h with⟨h1,h2⟩|⟨h1,h2⟩
  . exact .of_left (intBits_le_64 h1 h2)
  . exact .of_right (intBits_le_64 h1 h2)
def b8Z:OpR X (gc .Add) (rI0 λi j=>.int (i+j)):=c1q λ_ _ _ _ _ _ _ q=>add_int q
def b9a:OpR X (gc .Sub) (rI0 λi j=>.int (i-j)):=c1q λ_ _ _ _ _ _ _ q=>sub_int q
def b9b:OpR X (gc .Mult) (rI CMul λi j=>.int (i*j)):=opI λ_ _ _ _ _ _ _ hc q=>mul_int q hc.ok
def b6g:OpR X (gc .FloorDiv) (rI c3g λi j=>.int (i / j)):=opI λi j _ _ _ _ _ hc q=>by
  have h1:(0:Int)<j:=hc.1;have h2:j<1073741824:=hc.2;exact floordiv_int (by omega) (by rw[Int.fdiv_eq_ediv_of_nonneg i (by omega)];exact q) (.inl (PyProof.noPylong_small (by omega)))
def b9c:OpR X (gc .Mod) (rI (λ_ j=>0<j) λi j=>.int (i % j)):=opI λi j _ _ _ _ _ hc q=>by
  have h1:(0:Int)<j:=hc;exact mod_int' (by omega) (by rw[Int.fmod_eq_emod_of_nonneg i (by omega)];exact q)
def b9d:OpR X (gc .Pow) (rI c3h λi j=>.int (i^j.toNat)):=opI λ_ _ _ _ _ _ _ hc q=>pow_int_small hc.1 hc.2.1 hc.2.2 q
def unI{f:ak->AD ak}{g:Int->Int}
    (rule:∀(i:Int) (t:Tok) (s:au) (Q:ak->au->Prop) (E:ak->au->Prop),Q (.int (g i) s.toks) {s with toks:=s.toks+1}->aZ (aX X.prog X.w) X.A (f (.int i t)) Q E s) :
    UnR X f (rU λi=>.int (g i)):=by
  intro pins s U H x v Q I rx h;obtain⟨i,rfl,q⟩:=h;obtain⟨t,rfl⟩:=rx;exact rule i t s _ _ ⟨.int (g i),H,I.tok _,⟨_,rfl⟩,q⟩
def b9e:UnR X (unaryOp .USub) (rU λi=>.int (-i)):=unI λ_ _ _ _ _ q=>neg_int q
end
def scal:V->V->Bool
  |.non,.non=>yn|.non,.int _=>yn|.int _,.non=>yn|.non,.bl _=>yn|.bl _,.non=>yn|.non,.str _=>yn|.str _,.non=>yn
  |.int _,.int _=>yn|.bl _,.bl _=>yn|.str _,.str _=>yn|.byt _,.byt _=>yn
  |.int _,.str _=>yn|.str _,.int _=>yn|.bl _,.str _=>yn|.str _,.bl _=>yn
  |_,_=>yH
section
variable {X:Cx}{a b c:Expr}{ta tb tc:TE}{pos:fS}
def b9f(I:Inv X pins U H s)(q:Q (.bl k) H)(e:k=k'):EP X pins U Q (.bool k') s:=by
  subst e;exact⟨.bl k,H,I,rfl,q⟩
def c1r:OpR X (cH .Lt) (rI0 λi j=>.bl (decide (i<j))):=b8Y λ_ _ _ _ _ _ _ q=>lt_int q
def c1s:OpR X (cH .LtE) (rI0 λi j=>.bl (decide (i<=j))):=b8Y λ_ _ _ _ _ _ _ q=>le_int q
def c1t:OpR X (cH .Gt) (rI0 λi j=>.bl (decide (j<i))):=b8Y λ_ _ _ _ _ _ _ q=>gt_int q
def b6h:OpR X (cH .IsNot) (λx y H Q=>y=.non/\Q (.bl (!decide (x=.non))) H):=by
  intro pins s U H x y v u Q I rx ry h;obtain⟨rfl,q⟩:=h;cases ry
  refine isnot_none_gen (b9f I q ?_);cases x<;>first
    | (cases rx;rfl)
    | (obtain⟨t,rfl⟩:=rx;rfl)
def a8n(b:Expr)(h:op≠.In:=by decide)(h2:op≠.NotIn:=by decide):iy op b=yH:=by
  have e1:(op==CmpOp.In)=yH:=by cases op<;>first|rfl|exact absurd rfl h
  have e2:(op==CmpOp.NotIn)=yH:=by cases op<;>first|rfl|exact absurd rfl h2
  cases b<;>simp[iy,e1,e2]
def b6i{op:CmpOp}{r:R2}(ho:OpR X (cH op) r)(ha:PE X a ta)(hb:PE X b tb)(hm:iy op b=yH):PE X (.Compare a [op] [b] pos) (tOp r ta tb):=by
  intro pins s U H Q I h;exact wpAny_Compare1 (b8X ha hb I h λv u s2 x y H2 I2 rx ry q=>ho pins s2 U H2 x y v u Q I2 rx ry q) hm
def b8o(t:TE):TT:=λU H Q=>t U H λx H'=>∃k,x=.bl k/\Q k H'
def a9Q(ho:OpR X (cH op) r)(ha:PE X a ta)(hb:PE X b tb)(hm:iy op b=yH):PT X (.Compare a [op] [b] pos) (b8o (tOp r ta tb)):=by
  intro pins s U H Q I h;refine wpAny_isTrue_Compare1 (thn (ha pins s U H _ I h) λv s1 ⟨x,H1,I1,r1,q1⟩=>thn (hb pins s1 U H1 _ I1 q1) λu s2 ⟨y,H2,I2,r2,q2⟩=>
    thn (ho pins s2 U H2 x y v u _ I2 r1 r2 q2) λc s3 ⟨z,H3,I3,r3,k,e,q3⟩=>?_) hm
  subst e;cases r3
  exact eJ ⟨H3,I3,q3⟩
def b2X(r r':R2)(ta tb tc:TE):TE:=λU H Q=>ta U H λx H1=>tb U H1 λy H2=>r x y H2 λz H3=>∃k,z=.bl k/\
  (if k=yn then tc U H3 λw' H4=>r' y w' H4 Q else Q (.bl yH) H3)
def b2Y(ho:OpR X (cH op) r)(nV:OpR X (cH pP) r')(ha:PE X a ta)(hb:PE X b tb)(hc:PE X c tc)
    (hm:Bd [op,pP] [b,c]=yH:=by with_unfolding_all rfl):PE X (.Compare a [op,pP] [b,c] pos) (b2X r r' ta tb tc):=by
  intro pins s U H Q I h;refine Compare_chain (thn (ha pins s U H _ I h) λv s1 ⟨x,H1,I1,r1,q1⟩=>chain_link (thn (hb pins s1 U H1 _ I1 q1) λu s2 ⟨y,H2,I2,r2,q2⟩=>
    thn (ho pins s2 U H2 x y v u _ I2 r1 r2 q2) λd s3 ⟨z,H3,I3,r3,k,e,q3⟩=>?_)) hm
  subst e;cases r3
  refine eJ ?_;cases k with
  |false=>exact ite_ff ⟨.bl yH,H3,I3,rfl,q3⟩
  |true=>exact ite_tt (chain_last (thn (hc pins s3 U H3 _ I3 q3) λw' s4 ⟨z',H4,I4,r4,q4⟩=>nV pins s4 U H4 y z' u w' Q I4 r2 r4 q4))
def b2Z(ho:OpR X (cH op) r)(nV:OpR X (cH pP) r')(ha:PE X a ta)(hb:PE X b tb)(hc:PE X c tc)
    (hm:Bd [op,pP] [b,c]=yH:=by with_unfolding_all rfl):PT X (.Compare a [op,pP] [b,c] pos) (b8o (b2X r r' ta tb tc)):=by
  intro pins s U H Q I h;refine isTrue_chain (thn (ha pins s U H _ I h) λv s1 ⟨x,H1,I1,r1,q1⟩=>test_link (thn (hb pins s1 U H1 _ I1 q1) λu s2 ⟨y,H2,I2,r2,q2⟩=>
    thn (ho pins s2 U H2 x y v u _ I2 r1 r2 q2) λd s3 ⟨z,H3,I3,r3,k,e,q3⟩=>?_)) hm
  subst e;cases r3
  refine eJ ?_;cases k with
  |false=>
    obtain⟨k',e',q'⟩:=q3;cases e'
    exact ite_ff ⟨H3,I3,q'⟩
  |true=>
    refine ite_tt (test_last (thn (hc pins s3 U H3 _ I3 q3) λw' s4 ⟨z',H4,I4,r4,q4⟩=>thn (nV pins s4 U H4 y z' u w' _ I4 r2 r4 q4) λd' s5 qz=>?_));obtain⟨z2,H5,I5,r5,k2,e2,q5⟩:=qz;subst e2;cases r5
    exact eJ ⟨H5,I5,q5⟩
def b6j(K:ae)(x:V)(H:Hp)(k:Bool):Prop:=
  match x with
  |.non=>k=yH
  |.bl b=>k=b
  |.int i=>k=(i !=0)
  |.str y=>y.length<=bg/\k=((y.length:Int)!=0)
  |.byt y=>y.size<=bg/\k=((y.size:Int)!=0)
  |.ref p=>(∃xs,SqL K H p xs/\k=!xs.isEmpty)\/(∃xs,SqT K H p xs/\k=!xs.isEmpty)\/∃kvs,H p=cz (.dK kvs)/\k=!kvs.isEmpty
  |_=>False
def a8o{κ:Type}{kvs:List (κ×V)}{vs:List (κ×ak)}(r:KV kvs vs):(!vs.isEmpty)=!kvs.isEmpty:=by
  cases r<;>rfl
def a3a{xs:List V}{its:List ak}(r:Vals xs its):(!its.toArray.isEmpty)=!xs.isEmpty:=by
  cases r<;>simp
def a3b:(bg:Nat)<2^63:=by rw[cY];decide
def b3a:c3f X (λx H Q=>∃k,b6j X.K x H k/\Q k H):=by
  intro pins s U H x v Q I rx h;obtain⟨k,e,q⟩:=h;have hl:=a3b;have hs:bg=16777216:=cY;cases x with
  |non=>
    cases rx
    have e':k=yH:=e;subst e';exact truthy_none ⟨H,I,q⟩
  |bl b=>
    cases rx
    have e':k=b:=e;subst e';exact eJ ⟨H,I,q⟩
  |int i=>
    obtain⟨t,rfl⟩:=rx;have e':k=(i !=0):=e;subst e';exact PySem.P.truthy_int ⟨H,I,q⟩
  |str y=>
    obtain⟨t,rfl⟩:=rx;obtain⟨hy,e'⟩:y.length<=bg/\k=((y.length:Int)!=0):=e;subst e';exact PySem.P.truthy_str (by omega) ⟨H,I.tok _,q⟩
  |byt y=>
    obtain⟨t,rfl⟩:=rx;obtain⟨hy,e'⟩:y.size<=bg/\k=((y.size:Int)!=0):=e;subst e';exact PySem.W.truthy_bytes (by omega) ⟨H,I.tok _,q⟩
  |ref p=>
    cases rx
    have e':(∃xs,SqL X.K H p xs/\k=!xs.isEmpty)\/(∃xs,SqT X.K H p xs/\k=!xs.isEmpty)\/∃kvs,H p=cz (.dK kvs)/\k=!kvs.isEmpty:=e;rcases e' with⟨xs,hx,e'⟩|⟨xs,hx,e'⟩|⟨kvs,hx,e'⟩
    . subst e'
      obtain⟨its,r,pl,hz⟩:=I.list hx;have hlen:=r.length;exact wpAny_truthy_list pl.isList (by simp only[bt];omega) ⟨H,I.tok _,by rw[a3a r];exact q⟩
    . subst e'
      obtain⟨its,r,pl,hz⟩:=I.tuple hx;have hlen:=r.length;exact truthy_tuple pl (by simp only[bt];omega) ⟨H,I.tok _,by rw[a3a r];exact q⟩
    . subst e'
      obtain⟨hz,hS,vs,r,m⟩:kvs.length<=bg/\(p==dG)=yH/\∃vs,KV kvs vs/\s.heap.DictOf (a5M X.prog X.w) p vs:=I.hok p _ hx;have hlen:kvs.length=vs.length:=gO r;exact wpAny_truthy_dict hS m (by omega) ⟨H,I.tok _,by rw[a8o r];exact q⟩
  |_=>exact (show False from e).elim
def b3b(ha:PE X a ta)(he:∀whole,Di a X.env whole=(do let v <-whole;standAt a.pos;holding [v] (truthy v))) :
    PT X a (λU H Q=>ta U H λx H'=>∃k,b6j X.K x H' k/\Q k H'):=by
  intro pins s U H Q I h;exact isTrue_plain (thn (ha pins s U H _ I h) λv s1 ⟨x,H1,I1,r1,q1⟩=>b3a pins s1 U H1 x v Q I1 r1 q1) (he _)
def vals1(r:Vals [x] us):∃u,us=[u]/\RelV x u:=by
  cases r with
  |cons r1 r2=>cases r2;exact⟨_,rfl,r1⟩
def vals2(r:Vals [x,y] us):∃u w',us=[u,w']/\RelV x u/\RelV y w':=by
  cases r with
  |cons r1 r2=>
    cases r2 with
    |cons r3 r4=>cases r4;exact⟨_,_,rfl,r1,r3⟩
def b1g(hc:X.calm=yn):CallR X (.builtin "max") (λxs H Q=>∃i j,xs=[.int i,.int j]/\Q (.int (if j>i then j else i)) H):=by
  intro pins s U H xs us Q I r h;obtain⟨i,j,rfl,q⟩:=h;obtain⟨u,w',rfl,⟨t,rfl⟩,⟨t',rfl⟩⟩:=vals2 r;refine max_two_ints (I.ok.hd hc) λh' tk k=>⟨_,H,I.kept k,?_,q⟩
  by_cases hj:j>i
  . rw[aE hj,aE hj];exact⟨_,rfl⟩
  . rw[aM hj,aM hj];exact⟨_,rfl⟩
def b1h(hc:X.calm=yn):CallR X (.builtin "min") (λxs H Q=>∃i j,xs=[.int i,.int j]/\Q (.int (if j<i then j else i)) H):=by
  intro pins s U H xs us Q I r h;obtain⟨i,j,rfl,q⟩:=h;obtain⟨u,w',rfl,⟨t,rfl⟩,⟨t',rfl⟩⟩:=vals2 r;refine min_two_ints (I.ok.hd hc) λh' tk k=>⟨_,H,I.kept k,?_,q⟩
  by_cases hj:j<i
  . rw[aE hj,aE hj];exact⟨_,rfl⟩
  . rw[aM hj,aM hj];exact⟨_,rfl⟩
def b1i:CallR X (.type "int") (λxs H Q=>(∃i,xs=[.int i]/\Q (.int i) H)\/∃k,xs=[.bl k]/\Q (.int (if k then 1 else 0)) H):=by
  intro pins s U H xs us Q I r h;rcases h with⟨i,rfl,q⟩|⟨k,rfl,q⟩
  . obtain⟨u,rfl,t,rfl⟩:=vals1 r
    exact call_int_int ⟨.int i,H,I,⟨_,rfl⟩,q⟩
  . obtain⟨u,rfl,r1⟩:=vals1 r
    cases r1
    exact call_int_bool ⟨.int (if k then 1 else 0),H,I.tok _,⟨_,rfl⟩,q⟩
end
structure ObjM (h:cB) (x dx C:aw) (mA:bA->Option ak):Prop where
  obj:h.get? x=cz (p_ C dx)
  ns:h.Ns1 dx mA
  ne:dx≠x
def b1j{h:cB}(n:h.Ns1 dx mA):∃od,h.get? dx=cz od/\∀name,qX name od=cz (mA name):=by
  obtain⟨o,es,ep,ho,hd,hk,_,hm⟩:=n;refine⟨o,ho,λname=>?_⟩;have e:=hm name;unfold nsFind findBy at e;rw[<-Array.find?_toList]at e;unfold qX;rw[hd]
  dsimp only
  split
  . rename_i y q
    rw[q]at e;exact dH cz e
  . rename_i q
    rw[q]at e;have a:es.toList.any (·.refKey)=yH:=by
      rw[eA];intro y hy;obtain⟨z,t,oR⟩:=hk y (gN.mp hy);simp[iP.refKey,oR]
    have a':¬ es.toList.any (·.refKey)=yn:=by rw[a];exact cj
    rw[aM a'];exact dH cz e
def ObjM.look(I:ObjM h x dx C mA):∃od,PySem.W.InstAt h x (p_ C dx) C (cz od)/\∀name,qX name od=cz (mA name):=
  let⟨od,ho,hl⟩:=b1j I.ns
  ⟨od,⟨I.obj,rfl,rfl,ho⟩,hl⟩
section
variable {P:bu}{w:bV}{H H':Hp}{h h':cB}{a C dx:aw}{fs jK:List (bA×V)}
def b6k(hok:HOk P w H h)(e:H a=cz (.ins C dx fs)):∃mA,ObjM h a dx C mA/\(∀f,b8H (fs.lookup f) (mA f))/\PySem.Within mA (fs.map (·.1))/\fs.length<=1000/\H dx=cz (.own a):=by
  obtain⟨d,z,ne,ob,mA,n,r,q⟩:=(show ObjOk P w H h a (.ins C dx fs) from hok a _ e);exact⟨mA,⟨ob,n,ne⟩,r,q,z,d⟩
end
structure Cls (K:ae) (C:aw):Prop where
  pg:FG K C bA.empty=yn
  hd:PySem.W.hasDictIn K C=yn
  po:PySem.W.plainOver K C=yn
  sa:fR K (.ref C) "__setattr__"=cz (cz (.builtin "object.__setattr__"))
def Cls.get{K:ae}{C:aw}(c:Cls K C)(f:bA):FG K C f=yn:=c.pg
structure Con (K:ae) (C:aw) (f:bA) (v:V) (u:ak):Prop where
  at_:fR K (.ref C) f=cz (cz u)
  rel:RelV v u
  get:Co K u "__get__"=cz xn
  cp:PySem.W.copiedNames.contains f=yH
structure Meth (K:ae) (C:aw) (m:bA) (f:aw):Prop where
  at_:fR K (.ref C) m=cz (cz (.ref f))
  fn:PySem.W.isFn K (.ref f)=yn
  kp:fA K (.ref f)=yn
section
variable {X:Cx}{pins:List (aw×fV)}{U:St}{H:Hp}{s:au}{A:bP}{E:ak->au->Prop}{Q:ak->au->Prop}{c:ak}{b:Bool}
inductive TyOf (K:ae) (H:Hp):V->ak->Prop where
  |non:TyOf K H .non (.type "NoneType")
  |bl (x:Bool):TyOf K H (.bl x) (.type "bool")
  |int (i:Int):TyOf K H (.int i) (.type "int")
  |str (x:bA):TyOf K H (.str x) (.type "str")
  |flt (x:UInt64):TyOf K H (.flt x) (.type "float")
  |lst {a:aw} {xs:List V} (e:H a=cz (.lst xs)):TyOf K H (.ref a) (.type "list")
  |frz {a:aw} {o:fV} {xs:List V} (e:H a=cz (.frz o (.lst xs))):TyOf K H (.ref a) (.type "list")
  |tup {a:aw} {xs:List V} (e:H a=cz (.tup xs)):TyOf K H (.ref a) (.type "tuple")
  |dK {a:aw} {kvs:List (Key×V)} (e:H a=cz (.dK kvs)):TyOf K H (.ref a) (.type "dict")
  |dT {a:aw} {kvs:List (List Key×V)} (e:H a=cz (.dT kvs)):TyOf K H (.ref a) (.type "dict")
  |ins {a C dx:aw} {fs:List (bA×V)} (e:H a=cz (.ins C dx fs)) (cl:Cls K C) (ha:fR K (.ref C) "__class__"=cz (cz (.builtin "object.__class__")))
      (hn:Co K (.builtin "object.__class__") "__get__"=cz (cz (.builtin "getset_descriptor.__get__"))) (Bo:PySem.W.takesIn K (.builtin "object.__class__")=cz yn)
      (hm:PySem.W.mroIn K C (.type "object")=cz yn):TyOf K H (.ref a) (.ref C)
def a4V(I:Inv X pins U H s)(rx:RelV x u)(ty:TyOf X.K H x t)(e:dS X.K t c=cz b)(h:∀tk,Q (.bool b) {s with toks:=tk}) :
    aZ (aX X.prog X.w) A (call (.builtin "isinstance") [u,c]) Q E s:=by
  cases ty with
  |non=>cases (show u=bx from rx);exact cU PySem.W.kitx_none I.kIn jP e (λz=>nomatch z) h
  |bl y=>cases (show u=mJ y from rx);exact cU PySem.W.kitx_bool I.kIn jP e (λz=>nomatch z) h
  |int i=>obtain⟨t,q⟩:=(show ∃t,u=jA i t from rx);cases q;exact cU PySem.W.kitx_int I.kIn jP e (λz=>nomatch z) h
  |str y=>obtain⟨t,q⟩:=(show ∃t,u=sd y t from rx);cases q;exact cU PySem.W.kitx_str I.kIn jP e (λz=>nomatch z) h
  |flt y=>obtain⟨t,q⟩:=(show ∃t,u=ak.float y t from rx);cases q;exact cU PySem.W.kitx_float I.kIn jP e (λz=>nomatch z) h
  |@lst a xs ea=>
    cases (show u=bL a from rx)
    obtain⟨_,_,n,_,h1⟩:=(show ObjOk X.prog X.w H s.heap a (.lst xs) from I.hok a _ ea);exact cU om I.kIn ⟨_,h1,rfl⟩ e (λz=>nomatch z) h
  |@frz a ob xs ea=>
    cases (show u=bL a from rx)
    obtain⟨_,_,_,n,_,h1⟩:=(show ObjOk X.prog X.w H s.heap a (.frz ob (.lst xs)) from I.hok a _ ea);exact cU om I.kIn ⟨_,h1,rfl⟩ e (λz=>nomatch z) h
  |@tup a xs ea=>
    cases (show u=bL a from rx)
    obtain⟨_,_,_,p⟩:=(show ObjOk X.prog X.w H s.heap a (.tup xs) from I.hok a _ ea);obtain⟨o,h1,h2,_⟩:=p;exact cU AH I.kIn ⟨o,h1,h2⟩ e (λz=>nomatch z) h
  |@dK a kvs ea=>
    cases (show u=bL a from rx)
    obtain⟨_,_,vs,_,p⟩:=(show ObjOk X.prog X.w H s.heap a (.dK kvs) from I.hok a _ ea);obtain⟨o,es,ep,h1,h2,_⟩:=p;exact cU oq I.kIn ⟨o,h1,h2.1⟩ e (λz=>nomatch z) h
  |@dT a kvs ea=>
    cases (show u=bL a from rx)
    obtain⟨_,_,xs,_,o,es,ep,h1,h2,_⟩:=(show ObjOk X.prog X.w H s.heap a (.dT kvs) from I.hok a _ ea);exact cU oq I.kIn ⟨o,h1,h2.1⟩ e (λz=>nomatch z) h
  |@ins a C dx fs ea cl ha hn Bo hm=>
    cases (show u=bL a from rx)
    obtain⟨mA,O,_⟩:=b6k I.hok ea;obtain⟨od,J,_⟩:=O.look;exact cU (PySem.W.kitx_own (cl.get _) cl.hd ha hn Bo hm) I.kIn J e (λz=>nomatch z) h
end
structure Room (k:Nat) (A:bP):Prop where
  hd:A.handled=xn
  dp:A.depth+3*k+5<recursionLimit
  un:A.units+16*k+500<dY
def Room.mono(r:Room k A)(h:j<=k):Room j A:=⟨r.hd,by have:=r.dp;omega,by have:=r.un;omega⟩
theorem Room.deeper(r:Room (k+1) A)(env:nQ):Room k (A.deeper env):=
  ⟨r.hd,by have:=r.dp;show A.depth+1+3*k+5<_;omega,by have:=r.un;show A.units+3+16*k+500<_;omega⟩
theorem Room.in1(r:Room (k+1) A):Room k A.in1:=
  ⟨r.hd,by have:=r.dp;show A.depth+3*k+5<_;omega,by have:=r.un;show A.units+1+16*k+500<_;omega⟩
theorem Room.depth(r:Room k A):A.depth<recursionLimit:=by have:=r.dp;omega
theorem Room.units(r:Room k A):A.units+464<dY:=by have:=r.un;omega
def b3c:TA:=λ_ H Q=>Q [] H
def a6S(ta:TE)(tr:TA):TA:=λU H Q=>ta U H λx H1=>tr U H1 λxs H2=>Q (x::xs) H2
section
variable {X:Cx}{e:Expr}{es:List Expr}{te:TE}{t:TA}{pos:fS}
def o9:PA X [] b3c:=λ_ _ _ _ H Q I h=>Calls.spliced_nil ⟨[],H,I,.nil,h⟩
def l6(ha:PE X e te)(hr:PA X es t)(hs:aq (e::es) X.env=(yH,cD e X.env)::aq es X.env:=by rfl):PA X (e::es) (a6S te t):=by
  intro pos pins s U H Q I h;rw[hs];show aZ _ _ (spliced ((yH,cD e X.env)::cy pos (aq es X.env))) _ _ s;refine Calls.spliced_cons (thn (ha pins s U H _ I h) λu s1 qz=>?_);obtain⟨x,H1,I1,r1,q1⟩:=qz;exact thn (hr pos pins s1 U H1 _ I1 q1) λus s2 ⟨xs,H2,I2,r2,q2⟩=>⟨x::xs,H2,I2,.cons r1 r2,q2⟩
def c3i(t:TA):TE:=λU H Q=>t U H λxs H1=>xs.length<=bg/\∀p,H1 p=xn->Q (.ref p) (upd H1 p (.tup xs))
def c3j(t:TA):TE:=λU H Q=>t U H λxs H1=>xs.length<=bg/\∀p,H1 p=xn->Q (.ref p) (upd H1 p (.lst xs))
def a8p{x1}(h:PA X es t):PE X (.Tuple es x1 pos) (c3i t):=by
  intro pins s U H Q I hq;refine wpAny_Tuple_spliced (thn (h pos pins s U H _ I hq) λus s1 ⟨xs,H1,I1,r,z,q⟩=>⟨by rw[<-r.length];exact z,?_⟩);have hf:H1 s1.heap.objs.size=xn:=I1.hok.fresh (aA _);refine⟨.ref s1.heap.objs.size,upd H1 s1.heap.objs.size (.tup xs),I1.laid (t':=s1.toks) (λb u e=>aF _ e) (aA _) ?_,rfl,q _ hf⟩;exact⟨z,us,r,⟨_,bo _ rfl,rfl,_,rfl⟩⟩
def b9g(h:PA X es t):PE X (.List es pos) (c3j t):=by
  intro pins s U H Q I hq;refine wpAny_List_spliced (thn (h pos pins s U H _ I hq) λus s1 ⟨xs,H1,I1,r,z,q⟩=>⟨by rw[<-r.length];exact z,?_⟩);have hf:H1 s1.heap.objs.size=xn:=I1.hok.fresh (aA _);refine⟨.ref s1.heap.objs.size,upd H1 s1.heap.objs.size (.lst xs),I1.laid (t':=s1.toks) (λb u e=>aF _ e) (aA _) ?_,rfl,q _ hf⟩;exact⟨z,us,0,r,bo _ rfl⟩
end
abbrev Sp:=List V->Hp->VK->XK->Prop
abbrev CXT:=List nQ->Hp->au->XK->ak->au->Prop
structure Env0 (P:bu) (w:bV) (K:ae) (mg:bA->Option ak) (base:cB) (A:bP) (outer:List nQ) (s:au) (H:Hp):Prop where
  frames:A.frames=cz outer
  mod:Mod K mg base
  bs:∀b o,base.get? b=cz o->s.heap.get? b=cz o/\H b=xn
  bsz:base.objs.size<=s.heap.objs.size
  funs:s.heap.FunFrames base outer
  frf:∀b∈frs outer,H b=xn
  hok:HOk P w H s.heap
  bare:jV s.gens
  tabs:TabsIn K H
def CE(outer:List nQ)(P:bu)(w:bV)(H:Hp)(s:au)(Q:VK)(u:ak)(s':au):Prop:=
  ∃v H',s'.os=s.os/\jV s'.gens/\Un (frs outer) [] H H' s.heap s'.heap/\HOk P w H' s'.heap/\RelV v u/\Q v H'
def CR(CX:CXT)(outer:List nQ)(P:bu)(w:bV)(H:Hp)(s:au)(Q:VK)(E:XK)(r:Result)(s':au):Prop:=
  match r with
  |.ok (.ret u)=>CE outer P w H s Q u s'
  |.ok _=>False
  |.error e=>CX outer H s E e s'
structure FnOk (P:bu) (w:bV) (K:ae) (mg:bA->Option ak) (base:cB) (CX:CXT) (k:Nat) (f:aw) (fd:dU) (ps:List bA) (sp:Sp):Prop where
  len:∀vs H Q E,sp vs H Q E->vs.length=ps.length
  run:∀(A:bP) (outer:List nQ) (s:au) (H:Hp) (args:Args) (us:List ak) (vs:List V) (Q:VK) (E:XK),Room k A->Env0 P w K mg base A outer s H->oK s fd args (ps.zip us)->Vals vs us->sp vs H Q E->
    gQ (aX P w) A (.call (.ref f) args) (CR CX outer P w H s Q E) s
theorem FnOk.mono{P:bu}{w:bV}{K:ae}{mg:bA->Option ak}{base:cB}{CX:CXT}{j k:Nat}{f:aw}{fd:dU}{ps:List bA}{sp:Sp}(F:FnOk P w K mg base CX j f fd ps sp)(h:j<=k) :
    FnOk P w K mg base CX k f fd ps sp:=⟨F.len,λA outer s H args us vs Q E hr=>F.run A outer s H args us vs Q E (hr.mono h)⟩
theorem Env0.in1{P:bu}{w:bV}{K:ae}{mg:bA->Option ak}{base:cB}{A:bP}{outer:List nQ}{s:au}{H:Hp}(e:Env0 P w K mg base A outer s H) :
    Env0 P w K mg base A.in1 outer s H:=⟨e.frames,e.mod,e.bs,e.bsz,e.funs,e.frf,e.hok,e.bare,e.tabs⟩
section
variable {X:Cx}{pins:List (aw×fV)}{U:St}{H:Hp}{s s':au}
def Inv.env0(I:Inv X pins U H s):Env0 X.prog X.w X.K X.mg X.base X.A X.stack s H:=
  ⟨I.ok.frames,I.ok.mod,I.bs,cR I.ok.bsz I.sz,I.stack,I.stkFree,I.hok,I.bare,I.tabs⟩
def Inv.after(I:Inv X pins U H s)(h:CE X.stack X.prog X.w H s Q u s'):EP X pins U Q u s':=by
  obtain⟨v,H',os,bare,un,hok,r,q⟩:=h;obtain⟨hh,g,d,t,CW⟩:=s';obtain rfl:CW=s.os:=os;exact⟨v,H',I.call (h':=hh) (g':=g) (d':=d) (t':=t) (ch:=[]) un hok bare (λb z=>absurd z (by simp)),r,q⟩
end
def b8p(sp:Sp)(sV:List V)(E:XK)(t:TA):TE:=λU H Q=>t U H λvs H1=>sp (vs++sV) H1 Q E
def Binds(K:ae)(fd:dU)(ps:List bA)(ds:List ak):Prop:=
  ∀(s:au) (us:List ak),K.In s.heap->(us++ds).length=ps.length->oK s fd ⟨us,[]⟩ (ps.zip (us++ds))
def Binds.all{K:ae}{fd:dU}{ps:List bA}(h:∀us:List ak,us.length=ps.length->qW fd ⟨us,[]⟩=pure (ps.zip us)):Binds K fd ps []:=λs us _ hl=>by
  rw[bj]at hl ⊢;exact .of_eq (h us hl)
def a8q(CX:CXT)(X:Cx)(E:XK):Prop:=∀(pins:List (aw×fV)) (U:St) (H:Hp) (s:au) (e:ak) (s':au),Inv X pins U H s->CX X.stack H s E e s'->X.xe e s'
section
variable {X:Cx}{CX:CXT}{k:Nat}{f C:aw}{fd:dU}{ps:List bA}{sp:Sp}{sV:List V}{ds:List ak}{E:XK}{x m:bA}{p pos apos:fS}{e o:Expr}{es:List Expr}{ta:TE}{t:TA}
def b9h(F:FnOk X.prog X.w X.K X.mg X.base CX k f fd ps sp)(hr:Room k X.A)(hb:Binds X.K fd ps ds)(hd:Vals sV ds)(hx:a8q CX X E)
    (I:Inv X pins U H s) (r:Vals vs us) (h:sp (vs++sV) H Q E):aZ (aX X.prog X.w) X.A (call (.ref f) us) (EP X pins U Q) X.xe s:=by
  have r2:Vals (vs++sV) (us++ds):=r.append hd;have hl:(us++ds).length=ps.length:=by rw[<-r2.length];exact F.len _ _ _ _ h
  refine mz (gH (F.run X.A X.stack s H ⟨us,[]⟩ (us++ds) (vs++sV) Q E hr I.env0 (hb s us I.kIn hl) r2 h) λr s' hq=>?_);cases r with
  |error e=>exact hx pins U H s e s' I hq
  |ok fl=>
    cases fl with
    |ret u=>exact I.after hq
    |next=>exact cx hq
    |brk=>exact cx hq
    |cont=>exact cx hq
def b6l(F:FnOk X.prog X.w X.K X.mg X.base CX k f fd ps sp)(hr:Room k X.A)(hg:Gl X x)(hm:X.mg x=cz (.ref f))(hk:fA X.K (.ref f)=yn)(hb:Binds X.K fd ps ds)(hd:Vals sV ds)(hx:a8q CX X E)
    (ha:PA X (e::es) t) (lM:(x==("__debug__":bA))=yH:=by decide) (he:aq (e::es) X.env=(yH,cD e X.env)::aq es X.env:=by rfl) (gn:(cy pos (aq es X.env)).any (·.1)=yH:=by rfl) :
    PE X (.Call (.Name x p) (e::es) [] pos) (b8p sp sV E t):=by
  intro pins s U H Q I h;refine fH (Z9 I hg hm ?_ lM);refine nE (h₀:=X.base) I.ok.mod.kin hk (thn (ha pos pins s U H _ I h) λus s1 ⟨vs,H1,I1,r,q⟩=>⟨I1.kIn,?_⟩) he gn;exact b9h F hr hb hd hx I1 r q
structure Mk (K:ae) (C f:aw):Prop where
  makes:PySem.W.makesIn K C=yn
  init:fR K (.ref C) "__init__"=cz (cz (.ref f))
  fn:PySem.W.isFn K (.ref f)=yn
  kp:fA K (.ref C)=yn
end
def PK(X:Cx)(vG:List eO)(t:TA):Prop:=
  ∀(pos:fS) (pins:List (aw×fV)) (s:au) (U:St) (H:Hp) (Q:List V->Hp->Prop),Inv X pins U H s->t U H Q->aZ (aX X.prog X.w) X.A (evalAll ((eX pos (dt vG X.env)).map (·.2))) (AP X pins U Q) X.xe s
section
variable {X:Cx}{CX:CXT}{k:Nat}{f C:aw}{fd:dU}{ps ks:List bA}{sp:Sp}{E:XK}{x m:bA}{p pos apos lK:fS}{e o:Expr}{es:List Expr}{vG:List eO}{te ta:TE}{t tk:TA}{nm:Option bA}
def b9i:PK X [] b3c:=λ_ _ _ _ H Q I h=>wpAny_evalAll_nil ⟨[],H,I,.nil,h⟩
def b6m(ha:PE X e te)(hr:PK X vG t):PK X (⟨nm,e,lK⟩::vG) (a6S te t):=by
  intro pos pins s U H Q I h;show aZ _ _ (evalAll ((do let v <-cD e X.env;standAt pos;pure v)::(eX pos (dt vG X.env)).map (·.2))) _ _ s;refine wpAny_evalAll_cons (af (thn (ha pins s U H _ I h) λu s1 ⟨x,H1,I1,r1,q1⟩=>af (pj (aC ?_))));exact thn (hr pos pins s1 U H1 _ I1 q1) λus s2 ⟨xs,H2,I2,r2,q2⟩=>⟨x::xs,H2,I2,.cons r1 r2,q2⟩
structure KBinds (K:ae) (fd:dU) (ps ks:List bA) (g:List ak->List ak->List ak) (gV:List V->List V->List V):Prop where
  to:∀(s:au) (us ws:List ak),K.In s.heap->(g us ws).length=ps.length->oK s fd ⟨us,ks.zip ws⟩ (ps.zip (g us ws))
  rel:∀{vs:List V} {us:List ak} {zs:List V} {ws:List ak},Vals vs us->Vals zs ws->Vals (gV vs zs) (g us ws)
variable {g:List ak->List ak->List ak}{gV:List V->List V->List V}
end
structure FnScope (N P:List bA) (sc:gK):Prop where
  kind:sc.kind=.function
  co:sc.isCoroutine=yH
  gen:sc.isGenerator=yH
  nd:N.Nodup
  pre:N.take P.length=P
  par:∀x∈P,sc.names.lookup x=cz .local\/sc.names.lookup x=cz .cell
  nofree:∀y∈sc.names,y.2≠.free
theorem a4W{kindOf:bA->Option jd}{x:bA}:∀{binds:List (bA×ak)} {m:bA->Option ak},(∀v,(x,v)∉binds)->Cj kindOf binds m x=m x
  |[],_,_=>rfl
  | (n,v)::r,m,h=>by
    unfold Cj;rw[a4W λw hw=>h w (ax _ hw)]
    split
    . have:x≠n:=by rintro rfl;exact h v aN
      simp[this]
    . rfl
theorem a4X{kindOf:bA->Option jd}{x:bA}:∀{binds:List (bA×ak)} {m:bA->Option ak},(∀v,(x,v)∉binds)->Ck kindOf binds m x=m x
  |[],_,_=>rfl
  | (n,v)::r,m,h=>by
    unfold Ck;rw[a4X λw hw=>h w (ax _ hw)]
    split
    . rfl
    . have:x≠n:=by rintro rfl;exact h v aN
      simp[this]
theorem a4Y{kindOf:bA->Option jd}{x:bA}{v:ak}:∀{P:List bA} {vs:List ak} {i:Nat} {m:bA->Option ak},P.Nodup->P[i]?=cz x->vs[i]?=cz v->kindOf x=cz .local->
    Cj kindOf (P.zip vs) m x=cz v
  |[],_,_,_,_,h,_,_=>by simp at h
  |_::_,[],_,_,_,_,h,_=>by simp at h
  |p::P,w::vs,0,m,nd,h1,h2,hk=>by
    simp at h1 h2;subst h1;subst h2
    show Cj kindOf ((p,w)::P.zip vs) m p=_;unfold Cj;rw[a4W λv hv=>(bY.mp nd).1 (jq hv).1,aE hk];simp
  |p::P,w::vs,i+1,m,nd,h1,h2,hk=>by
    show Cj kindOf ((p,w)::P.zip vs) m x=_;unfold Cj;exact a4Y (i:=i) (bY.mp nd).2 (by simpa using h1) (by simpa using h2) hk
theorem a4Z{kindOf:bA->Option jd}{x:bA}{v:ak}:∀{P:List bA} {vs:List ak} {i:Nat} {m:bA->Option ak},P.Nodup->P[i]?=cz x->vs[i]?=cz v->kindOf x≠cz .local->
    Ck kindOf (P.zip vs) m x=cz v
  |[],_,_,_,_,h,_,_=>by simp at h
  |_::_,[],_,_,_,_,h,_=>by simp at h
  |p::P,w::vs,0,m,nd,h1,h2,hk=>by
    simp at h1 h2;subst h1;subst h2
    show Ck kindOf ((p,w)::P.zip vs) m p=_;unfold Ck;rw[a4X λv hv=>(bY.mp nd).1 (jq hv).1,aM hk];simp
  |p::P,w::vs,i+1,m,nd,h1,h2,hk=>by
    show Ck kindOf ((p,w)::P.zip vs) m x=_;unfold Ck;exact a4Z (i:=i) (bY.mp nd).2 (by simpa using h1) (by simpa using h2) hk
def start(N:List bA)(vs:List V):St:=vs.map cz++aP (N.length-vs.length) xn
def a0H(CX:CXT)(P:bu)(w:bV)(K:ae)(mg:bA->Option ak)(base:cB)(N:List bA)(qual:bA)(scope:gK)(f:aw)(cd:ak)(A:bP)(outer:List nQ)(s:au)(H:Hp)(E:XK):Cx where
  prog:=P
  w:=w
  K:=K
  mg:=mg
  base:=base
  A:=A.deeper (ju qual scope s.heap.objs.size f cd)
  N:=N
  s₀:=s
  H₀:=H
  env:=ju qual scope s.heap.objs.size f cd
  outer:=outer
  stack:=ju qual scope s.heap.objs.size f cd::outer
  ex:=[]
  calm:=yn
  fn:=λ_=>yn
  pn:=[]
  xe:=λe s'=>aZ (aX P w) (A.deeper (ju qual scope s.heap.objs.size f cd)) (leaving (ju qual scope s.heap.objs.size f cd) e) (λ_ rC=>CX outer H s E e rC) (λe' rC=>CX outer H s E e' rC) s'
def a6T{sc:gK}(h:sc.names.lookup x=cz .cell):∃c,(cellsFrom n sc.names []).lookup x=cz c:=by
  have q:=uC sc.names n [] (.inl h);exact fO.mp q
def b1k{CX:CXT}{P:bu}{w:bV}{K:ae}{mg:bA->Option ak}{base:cB}{N ps:List bA}{qual:bA}{scope:gK}{f:aw}{cd:ak}{A:bP}{outer:List nQ}{s s1:au}{H:Hp}{E:XK}{us:List ak}{vs:List V}
    (S:FnScope N ps scope) (hd:A.handled=xn) (e0:Env0 P w K mg base A outer s H) (hl:vs.length=ps.length) (r:Vals vs us)
    (x:InCallC s s.heap.objs.size (Cj (ju qual scope s.heap.objs.size f cd).kindOf (ps.zip us) λ_=>xn) (cellsFrom (s.heap.objs.size+1) scope.names []) (Ck (ju qual scope s.heap.objs.size f cd).kindOf (ps.zip us) λ_=>xn) s1) :
    Inv (a0H CX P w K mg base N qual scope f cd A outer s H E) [] (start N vs) H s1:=by
  have gn:ps.length<=N.length:=by have:=dH eh S.pre;rw[d_]at this;omega
  obtain⟨h1,tk,rfl,hk⟩:=x.done;have tE:∀b:aw,b∉(a0H CX P w K mg base N qual scope f cd A outer s H E).ex:=λb z=>absurd (show b∈([]:List aw) from z) (by simp)
  refine⟨⟨e0.mod,S.kind,rfl,rfl,aA _,λy z c h1 h2=>?_,λy hy=>?_,λy c _ h=>?_,λ_=>hd,bP.frames_deeper e0.frames,.inr ⟨rfl,rfl⟩,λb z=>absurd z (tE b),e0.bs,e0.bsz,λb _ _=>tE b,λb z=>absurd z (tE b),e0.funs,e0.frf,e0.tabs⟩,
    rfl,e0.bare,Un.kept hk,⟨_,x.toInCall.ns,λi y v h1 h2 h3=>?_⟩,λy c h=>⟨_,x.cell y c h⟩,e0.hok.fresh (aA _),λy c h=>?_,λp hp=>absurd (show p∈([]:List (aw×fV)) from hp) (by simp),e0.hok.kept hk,?_⟩
  . exact name_of_addr x.apart (cA h1) (cA h2)
  . have hy:scope.names.lookup y=cz .cell\/scope.names.lookup y=cz .free:=hy
    rcases hy with hy|hy
    . exact a6T hy
    . exact absurd rfl (S.nofree _ (cA hy))
  . exact fg (x.above y c (cA h))
  . have hi:i<vs.length:=by
      unfold start at h2;by_cases hi:i<vs.length
      . exact hi
      . rw[cQ (by simpa using hi)]at h2
        rw[tm]at h2
        split at h2<;>cases h2
    have ha:vs[i]?=cz v:=by
      unfold start at h2;rw[dO (by simpa using hi),a_]at h2;cases e:vs[i]? with
      |none=>rw[e]at h2;cases h2
      |some a=>rw[e]at h2;cases h2;rfl
    obtain⟨u,hu,rv⟩:=r.get ha;have hp:ps[i]?=cz y:=by
      rw[<-S.pre,kA (by omega)];exact h1
    have A_:ps.Nodup:=by rw[<-S.pre];exact S.nd.sublist (List.take_sublist _ _)
    refine⟨u,rv,?_⟩;rcases S.par y (bw hp) with k|k
    . exact .inl ⟨k,a4Y A_ hp hu k⟩
    . obtain⟨c,e⟩:=a6T (n:=s.heap.objs.size+1) k
      refine .inr ⟨.inl k,c,e,?_⟩;have q:=x.cell y c e;rw[a4Z A_ hp hu (by show scope.names.lookup y≠_;rw[k];decide)]at q;exact q
  . exact e0.hok.fresh (fg (x.above y c (cA h)))
  . unfold start
    show _=N.length;rw[az,aj,gy];omega
def b3d{CX:CXT}{P:bu}{w:bV}{K:ae}{mg:bA->Option ak}{base:cB}{k:Nat}{f:aw}{name qual:bA}{params:oM}{body:List gx}{scope:gK}{dV kV doc pm f_ ct oc:ak}{an od:Option aw}
    {pA:Array (Option ak)} {N ps:List bA} {sp:Sp} (lk:K.lookup f=cz ⟨oc,od,.func (fW name qual params body scope dV kV doc pm an f_ ct),pA⟩) (kU:mi K f_ qual=yn) (S:FnScope N ps scope)
    (len:∀vs H Q E,sp vs H Q E->vs.length=ps.length)
    (qR:∀(A:bP) (outer:List nQ) (s:au) (H:Hp) (vs:List V) (Q:VK) (E:XK),Room k (A.deeper (ju qual scope s.heap.objs.size f f_))->sp vs H Q E->
      ∃t,PSs (a0H CX P w K mg base N qual scope f f_ A outer s H E) body t/\t {nx:=λ_ H'=>Q .non H',rt:=Q} (start N vs) H) :
    FnOk P w K mg base CX (k+1) f (fW name qual params body scope dV kV doc pm an f_ ct) ps sp:=by
  refine⟨len,λA outer s H args us vs Q E hr e0 hb r pR=>?_⟩;have hl:=len _ _ _ _ pR;have KX:K.In s.heap:=e0.mod.kin.keeps λb o e=>(e0.bs b o e).1
  have lim:s.heap.NoLimit:=e0.mod.nolimit.keeps λb o e=>(e0.bs b o e).1
  have wo:∀y∈ps.zip us,scope.names.lookup y.1=cz .local\/(scope.names.lookup y.1=cz .cell/\((cellsFrom (s.heap.objs.size+1) scope.names []).lookup y.1).isSome=yn):=λ⟨n,v⟩ hy=>by
    rcases S.par n (jq hy).1 with q|q
    . exact .inl q
    . exact .inr ⟨q,uC _ _ _ (.inl q)⟩
  refine codeAny_call_function hr.depth (KX _ _ lk) rfl S.co S.gen rfl (PySem.W.codeRec_of KX kU) (hb _ _ _ _ ?_);refine wpAny_newFunctionEnv_cells S.kind wo λenv he s1 x=>?_
  subst he;refine⟨lim.keeps x.toInCall.keep,codeAny_func ?_⟩;obtain⟨t,ht,hq⟩:=qR A outer s H vs Q E (hr.deeper _) pR;have I:Inv (a0H CX P w K mg base N qual scope f f_ A outer s H E) [] (start N vs) H s1:=b1k S hr.hd e0 hl r x;refine dh (ht [] s1 (start N vs) H _ I hq) (λfl s' hs=>?_) λe s' hs=>hs
  have fin:∀{U':St} {H':Hp} {v:V} {u:ak},Inv (a0H CX P w K mg base N qual scope f f_ A outer s H E) [] U' H' s'->RelV v u->Q v H'->CE outer P w H s Q u s':=
    λ{U' H' v u} J rv q=>⟨v,H',J.os,J.bare,J.base,J.hok,rv,q⟩
  cases fl with
  |ret u=>
    obtain⟨v,U',H',J,rv,q⟩:=hs;exact fin J rv q
  |next=>
    obtain⟨U',H',J,q⟩:=hs;exact fin (v:=V.non) (u:=bx) J rfl q
  |brk=>
    obtain⟨_,_,_,q⟩:=hs;exact cx q
  |cont=>
    obtain⟨_,_,_,q⟩:=hs;exact cx q
section
variable {X:Cx}{x:bA}{p pos:fS}{e:Expr}{es:List Expr}{t:TA}{id T:String}{r:List V->Hp->VK->Prop}
def tCB(r:List V->Hp->VK->Prop)(t:TA):TE:=λU H Q=>t U H λvs H1=>r vs H1 Q
def a0Z(hc:CallR X (.builtin id) r)(hg:Gl X x)(hm:X.mg x=xn)(hv:fQ x=cz (.builtin id))(ha:PA X (e::es) t)(hn:x≠"__name__":=by decide)(lM:(x==("__debug__":bA))=yH:=by decide)
    (he:aq (e::es) X.env=(yH,cD e X.env)::aq es X.env:=by rfl) (gn:(cy pos (aq es X.env)).any (·.1)=yH:=by rfl):PE X (.Call (.Name x p) (e::es) [] pos) (tCB r t):=by
  intro pins s U H Q I h;refine fH (a0G I hg hm hv ?_ hn lM);exact PyProof.Rows.callWith_builtin1 (thn (ha pos pins s U H _ I h) λus s1 ⟨vs,H1,I1,r1,q1⟩=>hc pins s1 U H1 vs us Q I1 r1 q1) he gn
def R1(hc:CallR X (.type T) r)(hg:Gl X x)(hm:X.mg x=xn)(hv:fQ x=cz (.type T))(ha:PA X (e::es) t)(hn:x≠"__name__":=by decide)(lM:(x==("__debug__":bA))=yH:=by decide)
    (he:aq (e::es) X.env=(yH,cD e X.env)::aq es X.env:=by rfl) (gn:(cy pos (aq es X.env)).any (·.1)=yH:=by rfl):PE X (.Call (.Name x p) (e::es) [] pos) (tCB r t):=by
  intro pins s U H Q I h;refine fH (a0G I hg hm hv ?_ hn lM);exact gE (thn (ha pos pins s U H _ I h) λus s1 ⟨vs,H1,I1,r1,q1⟩=>hc pins s1 U H1 vs us Q I1 r1 q1) he gn
end
end L2
namespace HT
open PyProof.Rows
def lexLt:List Int->List Int->Bool
  |[],[]=>yH
  |[],_::_=>yn
  |_::_,[]=>yH
  |x::xs,y::ys=>if x=y then lexLt xs ys else decide (x<y)
def a3c(x y:Int)(xs ys:List Int):lexLt (x::xs) (y::ys)=if x=y then lexLt xs ys else decide (x<y):=rfl
def a4A:lexLt [] []=yH:=rfl
def a3d(y:Int)(ys:List Int):lexLt [] (y::ys)=yn:=rfl
def a3e(x:Int)(xs:List Int):lexLt (x::xs) []=yH:=rfl
def b3e(A:bP)(s:au)(a:Int)(t:Tok)(c:Int)(u:Tok):∃e,SeqAt.EqAt A s (.int a t) (.int c u) e/\(e=yn↔a=c):=
  ⟨(a==c),SeqAt.EqAt.int_int a t c u,by simp⟩
def b3f(A:bP)(s:au)(a:Int)(t:Tok)(c:Int)(u:Tok)(prog:bu)(w:bV)(E:ak->au->Prop)(Q:ak->au->Prop)(h:Q (.bool (decide (a<c))) s) :
    aZ (aX prog w) A (richCompare .Lt (.int a t) (.int c u)) Q E s:=
  (PyProof.Rows.lt_int h:aZ (aX prog w) A (cH .Lt (.int a t) (.int c u)) Q E s)
section
open PySem.SeqAt
open PySem.AutoSeq1 (wpAny_loadPart')
open PySem.MeetsSeq PySem.MeetsSeq2 PySem.MeetsSeq3
def a4B(l b:aw)(items ji:Array ak)(n n2:Nat)(dd Ay:Option aw)(sl xD:Array (Option ak))(ns ms:List Int)(hi:IntsAre items.toList ns)(hj:IntsAre ji.toList ms) :
    Meets (Builtin.«tuple.__lt__» ⟨[.ref l,.ref b],[]⟩)
      (λ_ R s=>s.heap.get? l=cz {cls:=.type "tuple",dict:=dd,data:=.seq items n,slots:=sl}/\s.heap.get? b=cz {cls:=.type "tuple",dict:=Ay,data:=.seq ji n2,slots:=xD}/\
        R (.ok (.ret (.bool (lexLt ns ms)))) s):=
  .of_wp λprog w A R s h=>by
    obtain⟨hp,g,d,tk,os⟩:=s;obtain⟨hl,hb,h⟩:=h;have f2:=AutoSeq1.sub_tuple_tuple;have z1:items.size=ns.length:=by rw[<-hi.length];simp
    have z2:ji.size=ms.length:=by rw[<-hj.length];simp
    wp_walk using wpAny_loadPart' hl,wpAny_loadPart' hb,wpAny_forIn_list _ (λrest b s'=>b.1=xn/\s'=⟨hp,g,d,tk,os⟩/\∃(vs ws:List ak) (uO uP:List Int),rest=vs.zip ws/\
      IntsAre vs uO/\IntsAre ws uP/\uO.length+ji.size=uP.length+items.size/\R (.ok (.ret (.bool (lexLt uO uP)))) ⟨hp,g,d,tk,os⟩) _
    case turn=>
      rintro⟨y,x⟩ rest b s' ⟨va,rfl,vs,ws,uO,uP,hz,qJ,xK,hlen,hR⟩;cases qJ with
      |nil=>rw[oy]at hz;cases hz
      |cons a t rG=>
        cases xK with
        |nil=>rw[nG]at hz;cases hz
        |cons c u yW=>
          rw[dq]at hz
          injection hz with yT jJ
          injection yT with hy hx
          subst hy hx;rw[a3c]at hR;simp only[aY]at hlen;obtain⟨e,he,wz⟩:=b3e A.in1 ⟨hp,g,d,tk,os⟩ a t c u;refine af (he prog w _ _ ?_);cases e with
          |true=>
            rw[aE (wz.mp rfl)]at hR
            wp_walk
            exact⟨rfl,rfl,_,_,_,_,jJ,rG,yW,by omega,hR⟩
          |false=>
            rw[aM (λq=>absurd (wz.mpr q) cj)]at hR;have DE:=b3f A.in1 ⟨hp,g,d,tk,os⟩ a t c u prog w
            wp_walk using DE
            exact⟨_,rfl,by simpa using hR⟩
    case fin=>
      rintro⟨b1,b2⟩ s' ⟨va,rfl,vs,ws,uO,uP,hz,qJ,xK,hlen,hR⟩;simp only at va;subst va;have hv:lexLt uO uP=decide (items.size<ji.size):=by
        cases qJ with
        |nil=>
          cases xK with
          |nil=>
            simp only[gi]at hlen;rw[a4A];exact (aW (by omega)).symm
          |cons c u hw=>
            simp only[gi,aY]at hlen;rw[a3d];exact (aL (by omega)).symm
        |cons a t hv=>
          cases xK with
          |nil=>
            simp only[gi,aY]at hlen;rw[a3e];exact (aW (by omega)).symm
          |cons c u hw=>
            rw[dq]at hz;cases hz
      rw[hv]at hR
      wp_walk
      exact⟨_,rfl,by simpa[Builtin.Tuple.tupleCompareSizes]using hR⟩
    case h=>
      exact⟨rfl,rfl,items.toList,ji.toList,ns,ms,rfl,hi,hj,by omega,h⟩
end
section
variable {prog:bu}{w:bV}{A:bP}{E:ak->au->Prop}{s:au}
def a8r(hl:IsTup s.heap l items)(hb:IsTup s.heap b ji)(hi:IntsAre items.toList ns)(hj:IntsAre ji.toList ms)
    (hu:A.units<dY) (h:Q (.bool (lexLt ns ms)) s):aZ (aX prog w) A (cH .Lt (.ref l) (.ref b)) Q E s:=by
  obtain⟨⟨cls,dd,data,sl⟩,ho,hc,n,hd⟩:=id hl;obtain⟨⟨Fv,Ay,data2,xD⟩,Bu,rR,n2,hd2⟩:=id hb;simp only at hc hd rR hd2;subst hc hd rR hd2;exact richCompare_meets_room (op:=.Lt) ⟨_,ho,rfl⟩ ⟨_,Bu,rfl⟩ PySem.F.slot_tuple_lt PySem.F.entry_tuple_lt (PySem.F.args_tuple_lt_2 _ _) (a4B l b items ji n n2 dd Ay sl xD ns ms hi hj)
    ⟨ho,Bu,show mJ (lexLt ns ms)≠ak.notImplemented/\Q (.bool (lexLt ns ms)) s from⟨(λx=>nomatch x),h⟩⟩ hu
def sIx(n d:Nat):Option Int->Nat
  |none=>d
  |some v=>if v<0 then (v+(n:Int)).toNat else min v.toNat n
end
end HT
namespace L2
open PySem.Spec PyProof.Rows
abbrev TO:=St->Hp->(Option Int->Hp->Prop)->Prop
def PO(X:Cx)(e:Option Expr)(t:TO):Prop:=
  ∀(pins:List (aw×fV)) (s:au) (U:St) (H:Hp) (Q:Option Int->Hp->Prop),Inv X pins U H s->t U H Q->
    aZ (aX X.prog X.w) X.A (evalPart e X.env) (λu s'=>∃o H',Inv X pins U H' s'/\IsPart u o/\Q o H') X.xe s
def b6n:TO:=λ_ H Q=>Q xn H
def c1u(t:TE):TO:=λU H Q=>t U H λx H1=>∃i,x=.int i/\Q (cz i) H1
section
variable {X:Cx}{e:Expr}{te:TE}{lo hi:Option Expr}{tl th:TO}{pos p2:fS}
def b6o:PO X xn b6n:=by
  intro pins s U H Q I h;rw[evalPart_none];exact aC ⟨xn,H,I,.none,h⟩
def b6p(h:PE X e te):PO X (cz e) (c1u te):=by
  intro pins s U H Q I hw;rw[evalPart_some];refine thn (h pins s U H _ I hw) λu s1 qz=>?_
  obtain⟨x,H1,I1,r1,q1⟩:=qz;obtain⟨i,rfl,q⟩:=q1;obtain⟨t,rfl⟩:=r1;exact⟨cz i,H1,I1,.int i t,q⟩
def SlR(X:Cx)(r:V->Option Int->Option Int->Hp->VK->Prop):Prop:=
  ∀(pins:List (aw×fV)) (s:au) (U:St) (H:Hp) (x:V) (v vl vu:ak) (lo hi:Option Int) (sl:aw) (Q:VK),Inv X pins U H s->RelV x v->s.heap.IsSliceOf sl vl vu .none->IsPart vl lo->IsPart vu hi->r x lo hi H Q->
    ∃T id,typeLookup (.type T) "__getitem__"=pure (cz (.builtin id))/\s.TypeIs v T/\aZ (aX X.prog X.w) X.A (qU v (.ref sl)) (EP X pins U Q) X.xe s
def tSl(r:V->Option Int->Option Int->Hp->VK->Prop)(te:TE)(tl th:TO):TE:=λU H Q=>te U H λx H1=>tl U H1 λl H2=>th U H2 λu H3=>r x l u H3 Q
def b3g(hr:SlR X r)(he:PE X e te)(hl:PO X lo tl)(hu:PO X hi th):PE X (.Subscript e (.Slice lo hi xn p2) pos) (tSl r te tl th):=by
  intro pins s U H Q I h;refine Subscript_ (thn (he pins s U H _ I h) λv s1 qz=>?_);obtain⟨x,H1,I1,r1,q1⟩:=qz;refine wpAny_Slice (thn (hl pins s1 U H1 _ I1 q1) λvl s2 ⟨l,H2,I2,pl,q2⟩=>thn (hu pins s2 U H2 _ I2 q2) λvu s3 qz=>?_);obtain⟨u,H3,I3,pu,q3⟩:=qz;rw[evalPart_none];refine aC ?_;have I4:Inv X pins U H3 {s3 with heap:=s3.heap.push {cls:=.type "slice",data:=.fields #[vl,vu,.none]}}:=I3.kept (t':=s3.toks) λb ob q=>aF _ q
  obtain⟨T,id,hT,ht,hg⟩:=hr pins {s3 with heap:=s3.heap.push {cls:=.type "slice",data:=.fields #[vl,vu,.none]}} U H3 x v vl vu l u s3.heap.objs.size Q I4 r1 (cB.IsSliceOf.new ..) pl pu q3;show aZ (aX X.prog X.w) X.A (subscriptTail e (.Slice lo hi xn p2) v (.ref s3.heap.objs.size)) (EP X pins U Q) X.xe {s3 with heap:=s3.heap.push {cls:=.type "slice",data:=.fields #[vl,vu,.none]}};exact tail_any (ops:=[.ref s3.heap.objs.size,v]) ht hT hg (by with_unfolding_all rfl)
def a8s(xs:List V)(lo hi:Option Int):List V:=(xs.drop (HT.sIx xs.length 0 lo)).take (HT.sIx xs.length xs.length hi-HT.sIx xs.length 0 lo)
def a6U(xs:List V)(lo hi:Option Int):(a8s xs lo hi).length<=xs.length:=by
  unfold a8s;rw[d_,iV];omega
end
def ixN(n:Nat)(i:Int):Option Nat:=if 0<=i then (if i<n then cz i.toNat else xn) else if -(n:Int)<=i then cz (i+n).toNat else xn
def atI{α:Type}(xs:List α)(i:Int):Option α:=(ixN xs.length i).bind λj=>xs[j]?
def b6q(h:ixN n i=cz j):seqIndex? i n=cz j/\j<n/\-(n:Int)<=i/\i<n:=by
  unfold ixN at h;by_cases h0:0<=i
  . rw[aE h0]at h
    by_cases h1:i<n
    . rw[aE h1]at h
      have e:i.toNat=j:=aK h;exact⟨by rw[seqIndex_of h0 h1,e],by omega,by omega,h1⟩
    . rw[aM h1]at h;cases h
  . rw[aM h0]at h
    by_cases h1:-(n:Int)<=i
    . rw[aE h1]at h
      have e:(i+n).toNat=j:=aK h;exact⟨by rw[seqIndex_neg (by omega) h1,e],by omega,h1,by omega⟩
    . rw[aM h1]at h;cases h
def a9R{α:Type}{xs:List α}{i:Int}{v:α}(h:atI xs i=cz v):∃j,seqIndex? i xs.length=cz j/\xs[j]?=cz v/\j<xs.length/\-(xs.length:Int)<=i/\i<xs.length:=by
  unfold atI at h;cases e:ixN xs.length i with
  |none=>rw[e]at h;cases h
  |some j=>
    rw[e]at h;obtain⟨h1,h2,h3,h4⟩:=b6q e;exact⟨j,h1,h,h2,h3,h4⟩
def a2O(b:Expr):Prop:=∀o i,sv b yH o i=operate [o,i] (qU o i)
def IxR(X:Cx)(r:R2):Prop:=
  ∀(value slice:Expr) (pins:List (aw×fV)) (s:au) (U:St) (H:Hp) (x y:V) (v u:ak) (Q:VK),Inv X pins U H s->RelV x v->RelV y u->r x y H Q->
    sv slice yH v u=operate [v,u] (qU v u)->aZ (aX X.prog X.w) X.A (subscriptTail value slice v u) (EP X pins U Q) X.xe s
def MtR(X:Cx)(id:String)(r:V->List V->Hp->VK->Prop):Prop:=
  ∀(pins:List (aw×fV)) (s:au) (U:St) (H:Hp) (x:V) (xs:List V) (v:ak) (us:List ak) (Q:VK),Inv X pins U H s->RelV x v->Vals xs us->r x xs H Q->
    aZ (aX X.prog X.w) X.A (call (.builtin id) (v::us)) (EP X pins U Q) X.xe s
section
variable {X:Cx}{a b:Expr}{ta tb:TE}{pos:fS}
def IxR.or(h:IxR X r)(h':IxR X r'):IxR X (λx y H Q=>r x y H Q\/r' x y H Q):=by
  intro value slice pins s U H x y v u Q I rx ry q hs;rcases q with q|q
  . exact h value slice pins s U H x y v u Q I rx ry q hs
  . exact h' value slice pins s U H x y v u Q I rx ry q hs
def a9S(hr:IxR X r)(ha:PE X a ta)(hb:PE X b tb)(hs:a2O b):PE X (.Subscript a b pos) (tOp r ta tb):=by
  intro pins s U H Q I h;exact Subscript_ (b8X ha hb I h λv u s2 x y H2 I2 rx ry q=>hr a b pins s2 U H2 x y v u Q I2 rx ry q (hs _ _))
def c1v(K:ae):R2:=λx y H Q=>∃p xs i v,x=.ref p/\y=.int i/\SqL K H p xs/\atI xs i=cz v/\Q v H
def c1w(K:ae):R2:=λx y H Q=>∃p xs i v,x=.ref p/\y=.int i/\SqT K H p xs/\atI xs i=cz v/\Q v H
def b6r:IxR X (c1v X.K):=by
  intro value slice pins s U H x y v u Q I rx ry h hs;obtain⟨p,xs,i,z,rfl,rfl,hq,he,q⟩:=h;cases rx
  obtain⟨t,rfl⟩:=ry;obtain⟨its,r,pl,hz⟩:=I.list hq;obtain⟨j,h1,h2,h3,h4,h5⟩:=a9R he;obtain⟨w,ew,vw⟩:=r.get h2;have hl:=r.length;have hn:=a3b;have fin:EP X pins U Q w s:=⟨z,H,I,vw,q⟩;by_cases h0:0<=i
  . have hj:i.toNat=j:=by
      rw[seqIndex_of h0 h5]at h1;exact aK h1
    exact item_listR pl.isList h0 (by omega) (by rw[hj];simpa using ew) fin hs
  . have hj:(i+(its.toArray.size:Int)).toNat=j:=by
      rw[seqIndex_neg (by omega) h4]at h1;rw[bt,<-hl];exact aK h1
    exact subscriptTail_builtinR (x:=w) pl.isList.typeIs slot_list_getitem.lookup
      (wpAny_getItem_list_neg (Q:=λr s'=>r=w/\EP X pins U Q r s') pl.isList (by omega) (by rw[bt]<;>omega) (by omega) (by rw[hj];simpa using ew) ⟨rfl,fin⟩) hs
def b9j:IxR X (c1w X.K):=by
  intro value slice pins s U H x y v u Q I rx ry h hs;obtain⟨p,xs,i,z,rfl,rfl,hq,he,q⟩:=h;cases rx
  obtain⟨t,rfl⟩:=ry;obtain⟨its,r,pl,hz⟩:=I.tuple hq;obtain⟨j,h1,h2,h3,h4,h5⟩:=a9R he;obtain⟨w,ew,vw⟩:=r.get h2;have hl:=r.length;have hn:=a3b;have fin:EP X pins U Q w s:=⟨z,H,I,vw,q⟩;exact subscriptTail_builtinR (x:=w) pl.typeIs slot_tuple_getitem.lookup
    (getItem_tuple (j:=j) (Q:=λr s'=>r=w/\EP X pins U Q r s') pl (by omega) (by omega) (by rw[bt,<-hl];exact h1) (by simpa using ew) ⟨rfl,fin⟩) hs
def a5R(lo hi:Option Int)(n:Nat):(jG lo hi xn n).1=((HT.sIx n 0 lo:Nat):Int)/\(jG lo hi xn n).2.1=((HT.sIx n n hi:Nat):Int)/\(jG lo hi xn n).2.2=1:=by
  refine⟨?_,?_,rfl⟩
  . cases lo with
    |none=>simp[jG,HT.sIx]
    |some i=>
      simp only[jG,HT.sIx,FJ,show (1:Int)>0 by decide,qx];by_cases h:i<0
      . simp only[h,qx]<;>omega
      . simp only[h,du]<;>omega
  . cases hi with
    |none=>simp[jG,HT.sIx]
    |some i=>
      simp only[jG,HT.sIx,FJ,show (1:Int)>0 by decide,qx];by_cases h:i<0
      . simp only[h,qx]<;>omega
      . simp only[h,du]<;>omega
def a4C(its:List ak)(lo hi:Option Int):slicePick its.toArray lo hi xn=((its.drop (HT.sIx its.length 0 lo)).take (HT.sIx its.length its.length hi-HT.sIx its.length 0 lo)).toArray:=by
  obtain⟨h1,h2,h3⟩:=a5R lo hi its.toArray.size;unfold slicePick;rw[h1,h2,h3];simp only[sliceRange_one,pick_run,bt]<;>rfl
def c3k(K:ae):V->Option Int->Option Int->Hp->VK->Prop:=λx lo hi H Q=>∃a xs,x=.ref a/\SqL K H a xs/\∀p,H p=xn->Q (.ref p) (upd H p (.lst (a8s xs lo hi)))
def b6s:SlR X (c3k X.K):=by
  intro pins s U H x v vl vu lo hi sl Q I rx hs pl pu h;obtain⟨a,xs,rfl,hx,q⟩:=h;cases rx
  obtain⟨its,r,ht,hz⟩:=I.list hx;have hlen:=r.length;refine⟨"list",_,slot_list_getitem.lookup,ht.isList.typeIs,?_⟩;refine wpAny_getItem_list_slice ht.isList hs pl pu .none (by simp) ?_ (by rw[bt]<;>omega);rw[a4C,<-hlen];refine⟨.ref s.heap.objs.size,_,I.laid (t':=s.toks) (o:=.lst (a8s xs lo hi)) (λb ob q=>aF _ q) (aA _) ?_,rfl,q _ (I.hok.fresh (aA _))⟩;exact⟨cR (a6U xs lo hi) hz,_,0,(r.drop (HT.sIx xs.length 0 lo)).take (HT.sIx xs.length xs.length hi-HT.sIx xs.length 0 lo),bo _ rfl⟩
def a5S:CallR X (.builtin "len") (λxs H Q=>∃p ys,xs=[.ref p]/\(SqL X.K H p ys\/SqT X.K H p ys)/\Q (.int ys.length) H):=by
  intro pins s U H xs us Q I r h;obtain⟨p,ys,rfl,hq,q⟩:=h;obtain⟨u,rfl,rx⟩:=vals1 r;cases rx
  have hn:=a3b;rcases hq with hq|hq
  . obtain⟨its,r',pl,hz⟩:=I.list hq
    have hlen:=r'.length;exact Calls.call_len_list pl.isList (by simp only[bt]<;>omega) ⟨.int ys.length,H,I.tok _,⟨s.toks+1,by rw[bt,hlen]⟩,q⟩
  . obtain⟨its,r',pl,hz⟩:=I.tuple hq
    have hlen:=r'.length;exact len_tuple pl (by simp only[bt]<;>omega) ⟨.int ys.length,H,I.tok _,⟨s.toks+1,by rw[bt,hlen]⟩,q⟩
def a5T:CallR X (.builtin "len") (λxs H Q=>∃z,xs=[.str z]/\z.length<=bg/\Q (.int z.length) H):=by
  intro pins s U H xs us Q I r h;obtain⟨z,rfl,hz,q⟩:=h;obtain⟨u,rfl,t,rfl⟩:=vals1 r;have hn:=a3b;exact len_str (by omega) ⟨.int z.length,H,I.tok _,⟨_,rfl⟩,q⟩
def CallR.or(h:CallR X f r)(h':CallR X f r'):CallR X f (λxs H Q=>r xs H Q\/r' xs H Q):=by
  intro pins s U H xs us Q I rs q;rcases q with q|q
  . exact h pins s U H xs us Q I rs q
  . exact h' pins s U H xs us Q I rs q
def a5U:CallR X (.type "list") (λxs H Q=>∃p ys,xs=[.ref p]/\(SqL X.K H p ys\/SqT X.K H p ys)/\∀l,H l=xn->Q (.ref l) (upd H l (.lst ys))):=by
  intro pins s U H xs us Q I r h;obtain⟨p,ys,rfl,hq,q⟩:=h;obtain⟨u,rfl,rx⟩:=vals1 r;cases rx
  have fin:∀(its:List ak),Vals ys its->ys.length<=bg->∀(h':cB) (c':Nat),(∀b o',s.heap.get? b=cz o'->h'.get? b=cz o')->
      h'.get? s.heap.objs.size=cz {cls:=.type "list",dict:=xn,data:=.seq its.toArray c',slots:=#[]}->EP X pins U Q (.ref s.heap.objs.size) {s with heap:=h'}:=λits r' hz h' c' kp e=>
    ⟨.ref s.heap.objs.size,_,I.laid (t':=s.toks) kp (aA _) (show ObjOk X.prog X.w _ h' _ (.lst ys) from⟨hz,its,c',r',e⟩),rfl,q _ (I.hok.fresh (aA _))⟩
  rcases hq with hq|hq
  . obtain⟨its,r',pl,hz⟩:=I.list hq
    have hlen:=r'.length;obtain⟨o,ho,hc,n,hd⟩:=pl.isList;exact call_list_seq p (.inl rfl) ho hc hd (λh' c' kp e=>fin its r' hz h' c' kp e) (by simp only[bt]<;>omega)
  . obtain⟨its,r',pl,hz⟩:=I.tuple hq
    have hlen:=r'.length;obtain⟨o,ho,hc,n,hd⟩:=pl;exact call_list_seq p (.inr rfl) ho hc hd (λh' c' kp e=>fin its r' hz h' c' kp e) (by simp only[bt]<;>omega)
def a4D:CallR X (.type "tuple") (λxs H Q=>∃p ys,xs=[.ref p]/\((SqL X.K H p ys/\∀l,H l=xn->Q (.ref l) (upd H l (.tup ys)))\/(SqT X.K H p ys/\Q (.ref p) H))):=by
  intro pins s U H xs us Q I r h;obtain⟨p,ys,rfl,h⟩:=h;obtain⟨u,rfl,rx⟩:=vals1 r;cases rx
  rcases h with⟨hq,q⟩|⟨hq,q⟩
  . obtain⟨its,r',pl,hz⟩:=I.list hq
    have hlen:=r'.length;refine call_tuple_list pl.isList (λh' kp=>?_) (by simp only[bt]<;>omega);have I1:Inv X pins U H {s with heap:=h'}:=I.kept (t':=s.toks) kp;have I2:Inv X pins U (upd H h'.objs.size (.tup ys)) {s with heap:=h'.push {cls:=.type "tuple",data:=.seq its.toArray}}:=
      I1.laid (t':=s.toks) (λb o e=>aF _ e) (aA _) (show ObjOk X.prog X.w _ _ _ (.tup ys) from⟨hz,its,r',IsTup.new _ _⟩)
    exact⟨.ref h'.objs.size,_,I2,rfl,q _ (I1.hok.fresh (aA _))⟩
  . obtain⟨its,r',pl,hz⟩:=I.tuple hq
    exact call_tuple_same pl ⟨.ref p,H,I,rfl,q⟩
def tyV(K:ae)(T:String)(x:V)(H:Hp):Prop:=match x with
  |.str _=>T="str"
  |.int _=>T="int"
  |.ref p=>(T="list"/\∃xs,SqL K H p xs)\/(T="tuple"/\∃o,K.lookup p=cz o/\o.cls=.type "tuple"/\o.dict=xn)\/
      (T="dict"/\((∃kvs,H p=cz (.dK kvs))\/∃kvs,H p=cz (.dT kvs)))\/(T="set"/\∃S n,H p=cz (.set S n))
  |_=>False
def b9k(I:Inv X pins U H s)(r:RelV x v)(ty:tyV X.K T x H) :
    s.TypeIs v T/\∀a,v=.ref a->∃ob,s.heap.get? a=cz ob/\ob.dict=xn:=by
  cases x with
  |str z=>
    obtain⟨t,rfl⟩:=r;cases (show T="str" from ty)
    exact⟨typeIs_str s z t,λ_ e=>nomatch e⟩
  |int i=>
    obtain⟨t,rfl⟩:=r;cases (show T="int" from ty)
    exact⟨typeIs_int s i t,λ_ e=>nomatch e⟩
  |ref p=>
    cases r
    rcases ty with⟨rfl,xs,hq⟩|⟨rfl,o,hk,hc,hd⟩|⟨rfl,hk⟩|⟨rfl,S,n,hk⟩
    . obtain⟨its,_,pl,_⟩:=I.list hq
      refine⟨pl.isList.typeIs,λa e=>?_⟩;cases e
      obtain⟨o,n,e,c,hd,_⟩:=pl;exact⟨o,e,hd⟩
    . refine⟨⟨o,I.kIn p o hk,hc⟩,λa e=>?_⟩
      cases e
      exact⟨o,I.kIn _ o hk,hd⟩
    . have z:∃o,s.heap.get? p=cz o/\o.ExactDict:=by
        rcases hk with⟨kvs,hk⟩|⟨kvs,hk⟩
        . obtain⟨_,_,_,_,o,_,_,e,ex,_⟩:=I.hok p _ hk
          exact⟨o,e,ex⟩
        . obtain⟨_,_,_,_,o,_,_,e,ex,_⟩:=I.hok p _ hk
          exact⟨o,e,ex⟩
      obtain⟨o,e,ex⟩:=z;refine⟨⟨o,e,ex.1⟩,λa e2=>?_⟩;cases e2
      exact⟨o,e,ex.2.1⟩
    . obtain⟨o,_,_,_,e,ex,_⟩:=I.hok p _ hk
      refine⟨⟨o,e,ex.1⟩,λa e2=>?_⟩;cases e2
      exact⟨o,e,ex.2.1⟩
  |_=>exact cx ty
def tBM(K:ae)(T:String)(r:V->List V->Hp->VK->Prop)(to:TE)(t:TA):TE:=λU H Q=>to U H λx H1=>tyV K T x H1/\t U H1 λxs H2=>r x xs H2 Q
variable {o e:Expr}{es:List Expr}{to:TE}{t:TA}{name:bA}{apos cJ:fS}{T id:String}{r:V->List V->Hp->VK->Prop}
def a5a(pa:PlainAttrs T)(slot:Slot T name id)(yY:typeOf (.builtin id)=pure (.type "method_descriptor"))(hm:MtR X id r)(ho:PE X o to)(ha:PA X (e::es) t)
    (fJ:dZ o name X.env (cD o X.env)=cD o X.env:=by rfl)
    (iQ:((cy cJ (aq (e::es) X.env)).all (λx=>!x.1)&&(eX cJ (dt [] X.env)).all (λx=>x.1.isSome)
      && decide ((e::es).length+([]:List eO).length+(if ([]:List eO).isEmpty then 0 else 1)<30))=yn:=by rfl)
    (fI:(apos.endLine==cJ.line)=yn:=by rfl) (hs:aq (e::es) X.env=(yH,cD e X.env)::aq es X.env:=by rfl) (eG:(cy cJ (aq es X.env)).any (·.1)=yH:=by rfl) :
    PE X (.Call (.Attribute o name apos) (e::es) [] cJ) (tBM X.K T r to t):=by
  intro pins s U H Q I h;refine CB fJ iQ fI rfl (thn (ho pins s U H _ I h) λv s1 qz=>?_);obtain⟨x,H1,I1,r1,ty,q1⟩:=qz;obtain⟨h1,h2⟩:=b9k I1 r1 ty;refine⟨T,id,pa,slot,yY,h1,h2,?_⟩;have hA:=ha cJ pins s1 U H1 _ I1 q1;rw[hs]at hA ⊢;refine mP (by show (yH||(cy cJ (aq es X.env)).any (·.1))=yH;rw[eG]<;>rfl) (jS ?_);exact thn hA λus s2 ⟨vs,H2,I2,r2,q2⟩=>hm pins s2 U H2 x vs v us Q I2 r1 r2 q2
end
def MtM(X:Cx)(id:String)(r:V->List V->Hp->VK->Prop):Prop:=
  ∀(pins:List (aw×fV)) (s:au) (U:St) (H:Hp) (x:V) (xs:List V) (v:ak) (us:List ak) (Q:VK),Inv X pins U H s->RelV x v->Vals xs us->r x xs H Q->
    aZ (aX X.prog X.w) X.A (call (.builtin id) (v::us)) (EP X pins U Q) X.xe s
def Vals.one{x:V}{us:List ak}(h:Vals [x] us):∃u,us=[u]/\RelV x u:=by
  cases h with
  |cons r t=>cases t;exact⟨_,rfl,r⟩
section
variable {X:Cx}{pins:List (aw×fV)}{U:St}{H:Hp}{s:au}{l b:aw}{xs ys zs:List V}
def Inv.lset{its its':List ak}(I:Inv X pins U H s)(hH:H l=cz (.lst xs))
    (e:s.heap.get? l=cz {cls:=.type "list",data:=.seq its.toArray n}) (hf:f its.toArray=its'.toArray) (hv:Vals ys its') (hz:ys.length<=bg) :
    Inv X pins U (upd H l (.lst ys)) {s with heap:=s.heap.update l (cu f),toks:=t'}:=by
  have q:=PySem.IsL.update e f;rw[hf]at q;refine I.write (x:=l) (e:=l) (by rw[hH];exact trivial) (.inl rfl) (λb' u hb hu=>(dQ s.heap (cu f) (cV hb)).trans hu) ⟨_,q⟩ ?_;exact⟨hz,its',_,hv,q⟩
def Inv.lnew(I:Inv X pins U H s)(hv:Vals ys its)(hz:ys.length<=bg) :
    Inv X pins U (upd H s.heap.objs.size (.lst ys)) {s with heap:=s.heap.push {cls:=.type "list",data:=.seq its.toArray},toks:=t'}:=
  I.laid (λ_ _ q=>aF _ q) (aA _) ⟨hz,its,0,hv,bo _ rfl⟩
theorem Inv.fresh(I:Inv X pins U H s):H s.heap.objs.size=xn:=I.hok.fresh (aA _)
def Inv.lstM(I:Inv X pins U H s)(hH:H l=cz (.lst xs)):xs.length<=bg/\∃(its:List ak) (n:Nat),Vals xs its/\xs.length=its.length/\s.heap.get? l=cz {cls:=.type "list",data:=.seq its.toArray n}:=by
  obtain⟨z,its,n,r,e⟩:=I.hok l _ hH;exact⟨z,its,n,r,r.length,e⟩
def b3h(h:n<=bg):lQ n=yH:=by
  unfold lQ;exact aW (by omega)
end
section
variable {X:Cx}
def b6t:V->List V->Hp->VK->Prop:=λx vs H Q=>∃l xs y,x=.ref l/\vs=[y]/\H l=cz (.lst xs)/\xs.length<bg/\Q .non (upd H l (.lst (xs++[y])))
def a0b:MtM X "list.append" b6t:=by
  intro pins s U H x vs v us Q I rx rv h;obtain⟨l,xs,y,rfl,rfl,hH,hz,q⟩:=h;cases rx
  obtain⟨u,rfl,ru⟩:=rv.one;obtain⟨z,its,n,r,hl,e⟩:=I.lstM hH;refine call_meets F.slot_list_append ⟨_,e,rfl⟩ F.entry_list_append (F.args_list_append_2 _ _) (PySem.list_append l its.toArray n u (by rw[bt];omega)) ⟨e,?_⟩;refine⟨.non,_,I.lset (its':=its++[u]) hH e (by simp) (r.append (.cons ru .nil)) ?_,rfl,q⟩;rw[az,bN];omega
def b6u:V->List V->Hp->VK->Prop:=λx vs H Q=>∃l b xs zs,x=.ref l/\vs=[.ref b]/\H l=cz (.lst xs)/\H b=cz (.lst zs)/\xs.length+zs.length<=bg/\Q .non (upd H l (.lst (xs++zs)))
def a5b:MtM X "list.extend" b6u:=by
  intro pins s U H x vs v us Q I rx rv h;obtain⟨l,b,xs,zs,rfl,rfl,hH,hB,hz,q⟩:=h;cases rx
  obtain⟨u,rfl,ru⟩:=rv.one;cases ru
  obtain⟨z,its,n,r,hl,e⟩:=I.lstM hH;obtain⟨z2,oO,n2,r2,rK,e2⟩:=I.lstM hB;have jI:its.toArray.size+oO.toArray.size<=bg:=by rw[bt,bt];omega
  have we:¬ (!its.toArray.isEmpty&&lQ (its.toArray.size+oO.toArray.size))=yn:=by
    rw[b3h jI,Bool.and_false];exact cj
  refine call_meets F.slot_list_extend ⟨_,e,rfl⟩ F.entry_list_extend (F.args_list_extend_2 _ _)
    (AutoSeq1.list_extend_list_list_0 l its.toArray n b oO.toArray n2 we (by rw[bt];omega) (by omega)) ⟨e,e2,?_⟩
  refine⟨.non,_,I.lset (its':=its++oO) hH e (by simp) (r.append r2) ?_,rfl,q⟩;rw[az];omega
end
end L2
namespace Att
open PySem.W PySem.Calls PyProof.Rows
def a2J:∀(ns:List Int) (vs:List ak),WellAll P h vs (ns.map WData.int)->IntsAre vs ns:=by
  intro ns
  induction ns with
  |nil=>
    intro vs w;rw[cW]at w;cases w
    exact .nil
  |cons n ns ih=>
    intro vs w;rw[ay]at w;cases w with
    |cons a b=>
      cases a
      exact .cons _ _ (ih _ b)
def b1l{l:OpenLaw}(hn:l.most=cz n) 
    (pS:l.row.toRowW.claim.pre args=yn) (xJ:WellAll P h vals args) :
    ∃a vs ns,vals=[bL a]/\args=[WData.list (ns.map WData.int)]/\h.get? a=cz {cls:=.type "list",data:=.seq vs.toArray}/\IntsAre vs ns/\ns.length<=n:=by
  have DD:WShape.hasAll [] args [.list .int]=yn:=(pre_splitW pS).1;have hc:l.pre.holds [] {args:=args}=yn:=(pre_splitW pS).2;obtain⟨d,r,rfl,h1,h2⟩:=hasAllW_cons DD;obtain rfl:=hasAllW_nil h2;obtain⟨xs,rfl,h3⟩:=hasW_list h1;obtain⟨ns,rfl⟩:=items_int h3;have hlen:ns.length<=n:=by
    unfold OpenLaw.pre at hc;have h4:(WTm.not (.lt (.lit (.int (n:Int))) (.len (.arg 0)))).holds [] {args:=[.list (ns.map .int)]}=yn:=by
      have h4:=(holds_andW hc).1;rw[hn]at h4;exact h4
    have h5:=condW_of h4 (w_not (w_lt w_lit (w_len_list (w_arg rfl))));rw[aj]at h5;refine Nat.le_of_not_lt λq=>?_
    have q':(n:Int)<((ns.length:Nat):Int):=by omega
    first
      | (rw[aL q']at h5;exact absurd h5 (by decide))
      | (simp at h5;omega)
  cases xJ with
  |cons w1 w2=>
    cases w2
    cases w1 with
    |list ho jk=>exact⟨_,_,ns,rfl,rfl,ho,a2J ns _ jk,hlen⟩
def b1m(l:OpenLaw)(args:List WData):l.row.toRowW.claim.post args (.bool yn) args=yn:=
  postW_of (r:=l.row.toRowW) (X:=(yn==yn))
    (show WShape.has [] (.bool yn) .bool=yn by first|rfl|decide|simp[WShape.has,WShape.arms,WShape.armsAll])
    (show (WTm.eq .res (.lit (.bool yn))).value [] {args:=args,res:=cz (.bool yn),after:=args}=cz (.bool (yn==yn)) from w_eq_bool (w_res rfl) w_lit) rfl
def attach_call{l:OpenLaw}{d:DefRec}
    (hn:l.most=cz n) (wJ:d.params.defaults=[])
    (call:∀(w:bV) (s₀ s₁:au) (mg mb:bA->Option ak) (fa:aw) (o:fV) (pm cd doc:ak) (a:aw) (vs:List ak) (ns:List Int),
      Ground q loose [] XP w s₀ mg mb s₁.heap->YP w s₁.heap->
      s₁.heap.get? fa=cz o->o.data=.func (docDef d.name d.params d.body d.scope pm cd doc)->s₁.heap.CodeRec cd d.name->mg d.name=cz (.ref fa)->
      s₁.heap.get? a=cz {cls:=.type "list",data:=.seq vs.toArray}->IntsAre vs ns->ns.length<=n->s₁.gens=#[]->
      gQ (aX l.prog w) oI (.call (.ref fa) ⟨[.ref a],[]⟩) (λr s'=>r=.ok (.ret (.bool yn))/\OldK s₁.heap s'.heap/\s'.os=s₁.os/\jV s'.gens) s₁) :
    WalkO q loose XP YP l.row.toRowW d [] (λf vs=>AF f vs):=by
  intro w s₀ s₁ mg mb G Y fa o pm cd doc dV kV ho hd kU hD wd hg args vals as pS wj zf xJ hlo;obtain rfl:dV=.none:=Dflts.none hD wJ;obtain rfl:kV=.none:=Dflts.noKw hD;obtain⟨a,vs,ns,rfl,rfl,tU,hints,hlen⟩:=b1l hn pS xJ;refine enter_call (gH (call w s₀ s₁ mg mb fa o pm cd doc a vs ns G Y ho (fd_plain hd) kU wd tU hints hlen hg) λr s' hq=>?_);obtain⟨rfl,h2,h3,h4⟩:=hq;exact⟨.inl ⟨.bool yn,.bool yn,[],rfl,λ_=>rfl,.bool yn,b1m l _,λ_=>⟨kl,λ_ hm=>(nomatch hm)⟩⟩,h2,h3,h4⟩
section
variable {prog:bu}{w:bV}{A:bP}{E:ak->au->Prop}{s:au}{K:Frag}
def ledger(h:cB)(L d:aw):List (aw×fV):=(aB h.objs.size).filterMap λa=>if a=L\/a=d then xn else (h.get? a).map λo=>(a,o)
end
end Att
namespace L2
open PySem.Spec PyProof.Rows
theorem vals_ints:∀{vs:List ak} {ns:List Int},IntsAre vs ns->Vals (ns.map V.int) vs
  |_,_,.nil=>.nil
  |_,_,.cons n t h=>.cons ⟨t,rfl⟩ (vals_ints h)
abbrev KOf{K:ae}{h:cB}(_:K.In h):ae:=K
end L2
namespace L2
open PySem.Spec PyProof.Rows
def T6(s:gx):oM:=match s with
  |.FunctionDef _ a _ _ _ _ _ _ _ _=>a
  |_=>{posonlyargs:=[],args:=[],vararg:=xn,kwonlyargs:=[],kw_defaults:=[],kwarg:=xn,defaults:=[]}
def t9(s:gx):List gx:=match s with
  |.FunctionDef _ _ b _ _ _ _ _ _ _=>b
  |_=>[]
def i5(s:gx):gK:=match s with
  |.FunctionDef _ _ _ _ _ _ sc _ _ _=>sc
  |_=>{kind:=.function,names:=[],isGenerator:=yH,isCoroutine:=yH}
abbrev CX0:CXT:=λ_ _ _ _ _ _=>False
abbrev E0:XK:=λ_ _ _=>False
def c1x:a8q CX0 X E0:=λ_ _ _ _ _ _ _ h=>h.elim
structure Fun (K:ae) (x qual:bA) (st:gx) (f:aw) (fd:dU):Prop where
  ex:∃(oc:ak) (od:Option aw) (kV doc pm:ak) (an:Option aw) (f_ ct:ak) (pA:Array (Option ak)),
    fd=fW x qual (T6 st) (t9 st) (i5 st) .none kV doc pm an f_ ct/\K.lookup f=cz ⟨oc,od,.func fd,pA⟩/\mi K f_ qual=yn
  kp:fA K (.ref f)=yn
section
variable {P:bu}{w:bV}{K:ae}{mg:bA->Option ak}{base:cB}
def Fun.ok{x qual:bA}{st:gx}{f:aw}{fd:dU}{N ps:List bA}{k:Nat}{sp:Sp}(F:Fun K x qual st f fd)(S:FnScope N ps (i5 st))(len:∀vs H Q E,sp vs H Q E->vs.length=ps.length)
    (qR:∀(f_:ak) (A:bP) (outer:List nQ) (s:au) (H:Hp) (vs:List V) (Q:VK) (E:XK),Room k (A.deeper (ju qual (i5 st) s.heap.objs.size f f_))->sp vs H Q E->
      ∃t,PSs (a0H CX0 P w K mg base N qual (i5 st) f f_ A outer s H E).nox (t9 st) t/\t {nx:=λ_ H'=>Q .non H',rt:=Q} (start N vs) H):FnOk P w K mg base CX0 (k+1) f fd ps sp:=by
  obtain⟨oc,od,kV,doc,pm,an,f_,ct,pA,rfl,lk,kU⟩:=F.ex;refine b3d lk kU S len λA outer s H vs Q E hr pR=>?_
  obtain⟨t,h,q⟩:=qR f_ A outer s H vs Q E hr pR;exact⟨t,h.nox,q⟩
def Fun.binds{x qual:bA}{st:gx}{f:aw}{fd:dU}{ps:List bA}(F:Fun K x qual st f fd)
    (h:∀(kV doc pm:ak) (an:Option aw) (f_ ct:ak) (us:List ak),us.length=ps.length->qW (fW x qual (T6 st) (t9 st) (i5 st) .none kV doc pm an f_ ct) ⟨us,[]⟩=pure (ps.zip us)):Binds K fd ps []:=by
  obtain⟨oc,od,kV,doc,pm,an,f_,ct,pA,rfl,lk,kU⟩:=F.ex;exact .all (h kV doc pm an f_ ct)
def b9l{x qual:bA}{st:gx}{f:aw}{oc:ak}{od an:Option aw}{pA:Array (Option ak)}{kV doc pm f_ ct:ak}(l:K.lookup f=cz ⟨oc,od,.func (fW x qual (T6 st) (t9 st) (i5 st) .none kV doc pm an f_ ct),pA⟩)
    (c:mi K f_ qual=yn) (k:fA K (.ref f)=yn):Fun K x qual st f (fW x qual (T6 st) (t9 st) (i5 st) .none kV doc pm an f_ ct):=⟨⟨oc,od,kV,doc,pm,an,f_,ct,pA,rfl,l,c⟩,k⟩
end
def a0c(h:n<=1000):n<bg:=ij h (by decide)
section
variable {X:Cx}
def pv(i:Nat)(hN:X.N[i]?=cz x:=by rfl)(hv:autoParam (NmV X x) ZY._auto_1):PE X (.Name x pos) (c1g i):=A5 hN hv.1 hv.2.1 hv.2.2
end
def a4E{A B:Prop}(h:B):if yH=yn then A else B:=by
  rw[aM cj];exact h
def a3f{A B:Prop}(h:A):if yn=yn then A else B:=by
  rw[aE rfl];exact h
def Same(H H':Hp):Prop:=∀b o,H b=cz o->H' b=cz o
def Same.refl(H:Hp):Same H H:=λ_ _ h=>h
def Same.trans(a:Same H H1)(b:Same H1 H2):Same H H2:=λc o h=>b c o (a c o h)
def Same.free{H H':Hp}(e:Same H H'){l:aw}(h:H' l=Option.none):H l=Option.none:=by
  cases q:H l with
  |none=>rfl
  |some o=>
    rw[e l o q]at h;cases h
end L2
set_option maxHeartbeats 4000000
namespace L2
open PySem.Spec PyProof.Rows
def K6(X:Cx)(N:List bA)(scope:gK)(cl:List (bA×aw))(C:aw)(s:au)(H:Hp)(fp:List aw):Cx:=
 {X with N:=N,s₀:=s,H₀:=H,env:=compEnvC scope cl C X.env,outer:=X.stack,ex:=fp,fn:=λ_=>yH,xe:=λ_ _=>False}
structure CompIn (X:Cx) (N:List bA) (scope:gK) (cl:List (bA×aw)) (τ:St->St):Prop where
 clos:pY scope X.env=pure cl
 kind:scope.kind=.function
 ncell:∀y∈scope.names,y.2≠.cell
 names:∀y∈scope.names,y.2=.local->scope.names.lookup y.1=cz .local
 sub:∀x c,cl.lookup x=cz c->X.env.cells.lookup x=cz c
 has:∀y∈scope.names,y.2=.free->∃c,cl.lookup y.1=cz c
 tlen:∀U,(τ U).length=N.length
 tval:∀(U:St) (i:Nat) (x:bA) (v:V),N[i]?=cz x->(τ U)[i]?=cz (cz v)->∃j:Nat,X.N[j]?=cz x/\U[j]?=cz (cz v)/\scope.names.lookup x=cz .free/\(X.env.kindOf x=cz .cell\/X.env.kindOf x=cz .free)
def a1a{scope:gK}(hn:∀y∈scope.names,y.2≠.cell)(h:(mB scope env).names.lookup x=cz .cell\/(mB scope env).names.lookup x=cz .free):∃y∈scope.names,y.1=x/\y.2=.free:=by
 have key:∀k,(mB scope env).names.lookup x=cz k->k=.cell\/k=.free->∃y∈scope.names,y.1=x/\y.2=.free:=λk e hk=>by
  have hm:=cA e;unfold mB at hm;obtain⟨⟨n,k'⟩,hy,e2⟩:=aJ.mp hm
  dsimp only at e2
  by_cases hc:(k'==fE&&env.scope.kind==.function&&env.kindOf n==cz .cell)=yn
  ·rw[aE hc]at e2;cases e2
   rw[aD,aD]at hc;exact⟨_,hy,rfl,by simpa using hc.1.1⟩
  ·rw[aM hc]at e2;cases e2
   rcases hk with rfl|rfl
   ·exact absurd rfl (hn _ hy)
   ·exact⟨_,hy,rfl,rfl⟩
 rcases h with h|h
 ·exact key _ h (.inl rfl)
 ·exact key _ h (.inr rfl)
def a5V{scope:gK}(h:scope.names.lookup x=cz .free):(mB scope env).names.lookup x=cz .cell\/(mB scope env).names.lookup x=cz .free:=by
 have key:∀names:List (bA×jd),names.lookup x=cz .free->
   (names.map λ(n,k)=>if (k==fE&&env.scope.kind==.function&&env.kindOf n==cz .cell) then (n,jd.cell) else (n,k)).lookup x=cz .cell\/
   (names.map λ(n,k)=>if (k==fE&&env.scope.kind==.function&&env.kindOf n==cz .cell) then (n,jd.cell) else (n,k)).lookup x=cz .free:=by
  intro names
  induction names with
  |nil=>intro h;cases h
  |cons z r ih=>
   obtain⟨n,k⟩:=z;intro h;rw[ay]
   dsimp only
   rw[fT]at h;cases hx:x==n with
   |true=>
    rw[hx]at h;have hk:k=.free:=by simpa using h
    subst hk;by_cases hc:(fE==fE&&env.scope.kind==.function&&env.kindOf n==cz .cell)=yn
    ·rw[aE hc,fT,hx];exact .inl rfl
    ·rw[aM hc,fT,hx];exact .inr rfl
   |false=>
    rw[hx]at h;by_cases hc:(k==fE&&env.scope.kind==.function&&env.kindOf n==cz .cell)=yn
    ·rw[aE hc,fT,hx];exact ih h
    ·rw[aM hc,fT,hx];exact ih h
 exact key _ h
structure Has (P:bu) (w:bV) (K:ae) (mg:bA->Option ak) (base:cB) (x:bA) (k:Nat) (ps:List bA) (sp:Sp):Prop where
 ex:∃f fd,FnOk P w K mg base CX0 k f fd ps sp/\Binds K fd ps []/\fA K (.ref f)=yn/\mg x=cz (.ref f)
def Has.up{P:bu}{w:bV}{K:ae}{mg:bA->Option ak}{base:cB}{x:bA}{j k:Nat}{ps:List bA}{sp:Sp}(h:Has P w K mg base x j ps sp)(l:j<=k):Has P w K mg base x k ps sp:=by
 obtain⟨f,fd,a,b⟩:=h.ex;exact⟨f,fd,a.mono l,b⟩
section
variable {X:Cx}{k:Nat}{ps:List bA}{sp:Sp}{x:bA}{p pos:fS}{e:Expr}{es:List Expr}{t:TA}
def a8t(h:Has X.prog X.w X.K X.mg X.base x k ps sp)(hr:Room k X.A)(ha:PA X (e::es) t)(hg:Gl X x:=by rfl)(lM:(x==("__debug__":bA))=yH:=by decide)
  (he:aq (e::es) X.env=(yH,cD e X.env)::aq es X.env:=by rfl) (gn:(cy pos (aq es X.env)).any (·.1)=yH:=by rfl):PE X (.Call (.Name x p) (e::es) [] pos) (b8p sp [] E0 t):=by
 obtain⟨f,fd,F,b,kp,m⟩:=h.ex;exact b6l F hr hg m kp b .nil c1x ha lM he gn
end
mutual
def Den(H:Hp):V->br->Prop
 |v,.none=>v=.non
 |v,.bool b=>v=.bl b
 |v,.int i=>v=.int i
 |v,.str x=>v=.str x
 |v,.list ds=>∃a xs,v=.ref a/\H a=cz (.lst xs)/\DenAll H xs ds
 |v,.tuple ds=>∃a xs,v=.ref a/\H a=cz (.tup xs)/\DenAll H xs ds
 |v,.dict kvs=>kvs=[]/\∃a,v=.ref a/\H a=cz (.dK [])
def DenAll(H:Hp):List V->List br->Prop
 |xs,[]=>xs=[]
 |xs,d::ds=>∃v r,xs=v::r/\Den H v d/\DenAll H r ds
end
mutual
theorem Den.mono{H H':Hp}(e:Same H H'):∀(d:br) {v:V},Den H v d->Den H' v d
 |.none,_,h=>by simpa only [Den]using h
 |.bool _,_,h=>by simpa only [Den]using h
 |.int _,_,h=>by simpa only [Den]using h
 |.str _,_,h=>by simpa only [Den]using h
 |.list ds,_,h=>by
  simp only[Den]at h ⊢;obtain⟨a,xs,h1,h2,h3⟩:=h;exact⟨a,xs,h1,e _ _ h2,DenAll.mono e ds h3⟩
 |.tuple ds,_,h=>by
  simp only[Den]at h ⊢;obtain⟨a,xs,h1,h2,h3⟩:=h;exact⟨a,xs,h1,e _ _ h2,DenAll.mono e ds h3⟩
 |.dict _,_,h=>by
  simp only[Den]at h ⊢;obtain⟨h0,a,h1,h2⟩:=h;exact⟨h0,a,h1,e _ _ h2⟩
theorem DenAll.mono{H H':Hp}(e:Same H H'):∀(ds:List br) {xs:List V},DenAll H xs ds->DenAll H' xs ds
 |[],_,h=>by simpa only [DenAll]using h
 |d::ds,_,h=>by
  simp only[DenAll]at h ⊢;obtain⟨v,r,h1,h2,h3⟩:=h;exact⟨v,r,h1,Den.mono e d h2,DenAll.mono e ds h3⟩
end
def Den.up{H H':Hp}{d:br}{v:V}(h:Den H v d)(e:Same H H'):Den H' v d:=Den.mono e d h
def DenAll.up{H H':Hp}{ds:List br}{xs:List V}(h:DenAll H xs ds)(e:Same H H'):DenAll H' xs ds:=DenAll.mono e ds h
section
variable {H:Hp}
def den_none:Den H .non .none:=by simp only[Den]
def den_bool{b:Bool}:Den H (.bl b) (.bool b):=by simp only[Den]
def den_int{i:Int}:Den H (.int i) (.int i):=by simp only[Den]
def den_str{x:bA}:Den H (.str x) (.str x):=by simp only[Den]
def den_list{a:aw}{xs:List V}{ds:List br}(h:H a=cz (.lst xs))(q:DenAll H xs ds):Den H (.ref a) (.list ds):=by
 simp only[Den];exact⟨a,xs,rfl,h,q⟩
def den_tup{a:aw}{xs:List V}{ds:List br}(h:H a=cz (.tup xs))(q:DenAll H xs ds):Den H (.ref a) (.tuple ds):=by
 simp only[Den];exact⟨a,xs,rfl,h,q⟩
def denAll_nil:DenAll H [] []:=by simp only[DenAll]
def denAll_cons{v:V}{d:br}{xs:List V}{ds:List br}(h:Den H v d)(q:DenAll H xs ds):DenAll H (v::xs) (d::ds):=by
 simp only[DenAll];exact⟨v,xs,rfl,h,q⟩
def Den.list_inv{v:V}{ds:List br}(h:Den H v (.list ds)):∃a xs,v=.ref a/\H a=cz (.lst xs)/\DenAll H xs ds:=by simpa only [Den]using h
def Den.tup_inv{v:V}{ds:List br}(h:Den H v (.tuple ds)):∃a xs,v=.ref a/\H a=cz (.tup xs)/\DenAll H xs ds:=by simpa only [Den]using h
def Den.int_inv{v:V}{i:Int}(h:Den H v (.int i)):v=.int i:=by simpa only [Den]using h
def DenAll.cons_inv{xs:List V}{d:br}{ds:List br}(h:DenAll H xs (d::ds)):∃v r,xs=v::r/\Den H v d/\DenAll H r ds:=by simpa only [DenAll]using h
def DenAll.nil_inv{xs:List V}(h:DenAll H xs []):xs=[]:=by simpa only [DenAll]using h
theorem DenAll.length:∀{ds:List br} {xs:List V},DenAll H xs ds->xs.length=ds.length
 |[],_,h=>by rw[h.nil_inv];rfl
 |d::ds,_,h=>by
  obtain⟨v,r,rfl,_,h⟩:=h.cons_inv;rw[aY,aY,DenAll.length h]
theorem DenAll.get:∀{ds:List br} {xs:List V} {i:Nat} {d:br},DenAll H xs ds->ds[i]?=cz d->∃v,xs[i]?=cz v/\Den H v d
 |[],_,i,d,_,e=>by simp at e
 |d0::ds,_,0,d,h,e=>by
  obtain⟨v,r,rfl,h1,_⟩:=h.cons_inv;have:d0=d:=by simpa using e
  subst this;exact⟨v,rfl,h1⟩
 |d0::ds,_,i+1,d,h,e=>by
  obtain⟨v,r,rfl,_,h1⟩:=h.cons_inv;obtain⟨u,h2,h3⟩:=DenAll.get (i:=i) h1 (by simpa using e);exact⟨u,by simpa using h2,h3⟩
def DenAll.getV{ds:List br}{xs:List V}{i:Nat}{v:V}(h:DenAll H xs ds)(e:xs[i]?=cz v):∃d,ds[i]?=cz d/\Den H v d:=by
 have hi:=(aO.mp e).1;rw[h.length]at hi;obtain⟨u,h1,h2⟩:=h.get (ag hi);rw[e]at h1;cases h1
 exact⟨_,ag hi,h2⟩
theorem DenAll.append:∀{ds:List br} {xs:List V} {es:List br} {ys:List V},DenAll H xs ds->DenAll H ys es->DenAll H (xs++ys) (ds++es)
 |[],_,_,_,h,q=>by rw[h.nil_inv];exact q
 |d::ds,_,_,_,h,q=>by
  obtain⟨v,r,rfl,h1,h2⟩:=h.cons_inv;exact denAll_cons h1 (DenAll.append h2 q)
end
mutual
theorem Den.reads{P:bu}{w:bV}{H:Hp}{h:cB}(ok:HOk P w H h):∀(d:br) {v:V} {u:ak},d.canLay0=yn->Den H v d->RelV v u->∃as,Reads h u d as
 |.none,v,u,_,q,r=>by
  simp only[Den]at q;subst q;cases (show u=bx from r)
  exact⟨_,.none⟩
 |.bool b,v,u,_,q,r=>by
  simp only[Den]at q;subst q;cases (show u=mJ b from r)
  exact⟨_,.bool b⟩
 |.int i,v,u,_,q,r=>by
  simp only[Den]at q;subst q;obtain⟨t,rfl⟩:=r;exact⟨_,.int i t⟩
 |.str x,v,u,_,q,r=>by
  simp only[Den]at q;subst q;obtain⟨t,rfl⟩:=r;exact⟨_,.str x t⟩
 |.list ds,v,u,hl,q,r=>by
  simp only[Den]at q;obtain⟨a,xs,rfl,h1,h2⟩:=q;cases (show u=bL a from r)
  obtain⟨z,its,n,rv,e⟩:=ok a _ h1;obtain⟨as,ra⟩:=DenAll.reads ok ds hl h2 rv;exact⟨_,.list e rfl rfl (by simpa using ra)⟩
 |.tuple ds,v,u,hl,q,r=>by
  simp only[Den]at q;obtain⟨a,xs,rfl,h1,h2⟩:=q;cases (show u=bL a from r)
  obtain⟨z,its,rv,o,e,c,n,d⟩:=ok a _ h1;obtain⟨as,ra⟩:=DenAll.reads ok ds hl h2 rv;exact⟨_,.tuple e c d (by simpa using ra)⟩
 |.dict _,_,_,hl,_,_=>nomatch hl
theorem DenAll.reads{P:bu}{w:bV}{H:Hp}{h:cB}(ok:HOk P w H h):∀(ds:List br) {xs:List V} {us:List ak},bh ds=yn->DenAll H xs ds->Vals xs us->∃as,jc h us ds as
 |[],xs,us,_,q,r=>by
  simp only[DenAll]at q;subst q;cases r
  exact⟨_,.nil⟩
 |d::ds,xs,us,hl,q,r=>by
  have sL:d.canLay0=yn/\bh ds=yn:=by simpa[bh]using hl
  simp only[DenAll]at q;obtain⟨v,rs,rfl,h1,h2⟩:=q;cases r with
  |cons r1 r2=>
   obtain⟨as,ra⟩:=Den.reads ok d sL.1 h1 r1;obtain⟨bs,rb⟩:=DenAll.reads ok ds sL.2 h2 r2;exact⟨_,.cons ra rb⟩
end
section
variable {X:Cx}
def tyD:br->String
 |.int _=>"int"
 |.bool _=>"bool"
 |.list _=>"list"
 |.tuple _=>"tuple"
 |.none=>"NoneType"
 |.str _=>"str"
 |.dict _=>"dict"
def Den.ty{K:ae}{H:Hp}{v:V}:∀{d:br},Den H v d->TyOf K H v (.type (tyD d))
 |.none,h=>by simp only[Den]at h;subst h;exact .non
 |.bool _,h=>by simp only[Den]at h;subst h;exact .bl _
 |.int _,h=>by simp only[Den]at h;subst h;exact .int _
 |.str _,h=>by simp only[Den]at h;subst h;exact .str _
 |.list _,h=>by simp only[Den]at h;obtain⟨a,xs,rfl,h1,_⟩:=h;exact .lst h1
 |.tuple _,h=>by simp only[Den]at h;obtain⟨a,xs,rfl,h1,_⟩:=h;exact .tup h1
 |.dict _,h=>by simp only[Den]at h;obtain⟨_,a,rfl,h1⟩:=h;exact .dK h1
def Inv.sysBelow(I:Inv X pins U H s):dG<s.heap.objs.size:=by
 have h:bp<s.heap.objs.size:=(I.mod.glob.keeps I.bk).lt;exact jD (by decide) h
end
def l9(h:H p=xn)(o:HO):Same H (upd H p o):=λb u q=>by rw[c9 (j6 q h)];exact q
def b3i(e:Same H H')(h:H p=xn)(o:HO):Same H (upd H' p o):=λb u q=>by rw[c9 (j6 q h)];exact e b u q
def PTs(X:Cx)(ifs:List Expr)(tt:TT):Prop:=
 ∀(pins:List (aw×fV)) (s:au) (U:St) (H:Hp) (Q:Bool->Hp->Prop),Inv X pins U H s->tt U H Q->
  aZ (aX X.prog X.w) X.A (forIn ifs yn λc r=>if r=yn then do let ok <-Di c X.env (cD c X.env);pure (fG ok) else pure (fG r)) (TP X pins U Q) X.xe s
def c3l:TT:=λ_ H Q=>Q yn H
def a9T:PTs X [] c3l:=λ_ _ U H _ I h=>wpAny_tests_nil ⟨H,I,h⟩
section
variable {prog:bu}{w:bV}{A:bP}{R:Result->au->Prop}{s:au}
def a4F(I:Nat->au->Prop)
  (turn:∀n s,I n s->aZ (aX prog w) A (vA it) (λr s₁=>match r with
   |none=>R (.ok .next) s₁
   |some v=>aZ (aX prog w) A (mR target it v) (λ_ s₂=>aZ (aX prog w) A (pZ target env v) (λ_ s₃=>
     aZ (aX prog w) A (forIn ifs yn λc r=>if r=yn then do let ok <-Di c env (cD c env);pure (fG ok) else pure (fG r)) (λok qD=>
     if ok=yn then aZ (aX prog w) A (cD elt env) (λx s₄=>
      aZ (aX prog w) A (call (.builtin "list.append") [acc,x]) (λ_ s₅=>∃m,m<n/\I m s₅) (λ_ _=>False) s₄) (λ_ _=>False) qD
     else ∃m,m<n/\I m qD)
     (λ_ _=>False) s₃) (λ_ _=>False) s₂) (λ_ _=>False) s₁) (λ_ _=>False) s)
  (n:Nat) (h:I n s) :
  gQ (aX prog w) A (.compLoop (.ListComp elt [⟨target,iter,ifs,0⟩] scope pos) 0 it acc env) R s:=by
 refine codeAny_loop rfl I (λn s hI=>?_) n h;show aZ _ _ ((compTurn (.ListComp elt [⟨target,iter,ifs,0⟩] scope pos) 0 it acc env).onRaise (λx=>do noteFrame x env;theTreesLotGoes x)) _ _ s;refine wpAny_noted ?_;rw[compTurn_list];refine af (pj (af (dh (turn n s hI) (λr s₁ h₁=>?_) λ_ _ h'=>h'.elim)));cases r with
 |none=>exact aC h₁
 |some v=>
  refine af (dh h₁ (λ_ s₂ h₂=>?_) λ_ _ h'=>h'.elim);refine af (dh h₂ (λ_ s₃ h₃=>af (dh h₃ (λok qD pD=>?_) λ_ _ h'=>h'.elim)) λ_ _ h'=>h'.elim);cases ok with
  |false=>
   rw[aM cj]at pD;exact af (aC (aC ⟨rfl,pD⟩))
  |true=>
   rw[aE rfl]at pD;exact af (af (dh pD (λx s₄ h₄=>af (dh h₄ (λ_ s₅ h₅=>aC (aC ⟨rfl,h₅⟩)) λ_ _ h'=>h'.elim)) λ_ _ h'=>h'.elim))
end
def a5W(wi:TI)(g:TG)(tt:TT)(te:TE)(τ:St->St):TE:=λU H Q=>wi U H λJ H1=>∀D,H1 D=xn->∃W:Nat->Nat->List V->St->Hp->Prop,(∃m,W 0 m [] (τ U) (upd H1 D (.lst [])))/\
 ∀i m ys U' H',W i m ys U' H'->(J.stop i H'/\Q (.ref D) H')\/
  (J.go i H'/\∃(N:V->St->Hp->Prop) (NO:St->Hp->Prop),(∀y U3 H4,N y U3 H4->H4 D=cz (.lst ys)/\ys.length<bg/\∃m',m'<m/\W (i+1) m' (ys++[y]) U3 (upd H4 D (.lst (ys++[y]))))/\
   (∀U3 H4,NO U3 H4->∃m',m'<m/\W (i+1) m' ys U3 H4)/\∀x H2,J.yld i H' x H2->g x U' H2 λU3 H3=>tt U3 H3 λb H4=>if b=yn then te U3 H4 λy H5=>N y U3 H5 else NO U3 H4)
section
variable {X:Cx}{N:List bA}{scope:gK}{cl:List (bA×aw)}{τ:St->St}{elt tg iter:Expr}{ifs:List Expr}{pos:fS}{wi:TI}{g:TG}{tt:TT}{te:TE}
def a5c(hc:X.calm=yn)(hi:PI X tg iter wi)(C:CompIn X N scope cl τ)(hg:∀Cl s H fp,PG (K6 X N scope cl Cl s H fp) tg g)(ht:∀Cl s H fp,PTs (K6 X N scope cl Cl s H fp) ifs tt)(he:∀Cl s H fp,PE (K6 X N scope cl Cl s H fp) elt te)
  (I:Inv X pins U H s) (h:a5W wi g tt te τ U H R) {PP:ak->aw->Result->au->Prop}
  (EU:∀D Cl Hn s' o m,Inv X pins U Hn s'->R (.ref D) Hn->a4z X pins Hn Cl->s'.heap.get? Cl=cz o->(∀v,o.data≠.cell v)->(∀h':cB,h'.get? Cl=cz o->h'.Ns Cl m)->PP (.ref D) Cl (.ok .next) s') :
  aZ (aX X.prog X.w) X.A (cD iter X.env) (λx s₁=>aZ (aX X.prog X.w) X.A (pyIter x) (λit s₂=>aZ (aX X.prog X.w) X.A (newList []) (λacc s₃=>
   aZ (aX X.prog X.w) X.A (newFunctionEnv scope X.env.globals cl [] X.env.qual xn .none (cz X.env)) (λxo s₄=>
    gQ (aX X.prog X.w) X.A (.compStart (.ListComp elt [⟨tg,iter,ifs,0⟩] scope pos) 0 it acc {xo with scope:=mB scope X.env}) (PP acc xo.locals) s₄) X.xe s₃) X.xe s₂) X.xe s₁) X.xe s:=by
 refine thn (hi pins s U H _ I h) λx s1 h1=>thn h1 λyP s2 h2=>?_
 obtain⟨it,fp,tn,J,H2,rfl,I2,T,lh,f2,q⟩:=h2;refine i_ (wpAny_newFunctionEnv C.ncell (by intro y hy;simp at hy) (λh₁ oQ nq=>?_) C.kind)
 dsimp only at oQ nq ⊢
 generalize Ai:s2.heap.push {cls:=.type "list",dict:=xn,data:=.seq ([]:List ak).toArray}=G2 at oQ nq ⊢;have hC:G2.objs.size=s2.heap.objs.size+1:=by rw[<-Ai,cB.size_push]
 have BX:s2.heap.objs.size≠G2.objs.size:=by rw[hC];exact bI (FK _)
 have uw:s2.heap.objs.size<=G2.objs.size:=by rw[hC];exact xt _
 have below:∀b,b<s2.heap.objs.size->b≠G2.objs.size:=λb hb=>by rw[hC];exact bI (Nat.lt_succ_of_lt hb)
 have old:∀b o,s2.heap.get? b=cz o->h₁.get? b=cz o:=λb o e=>nq.extBut b o (below b (aS e)) (aF _ (Ai▸aF _ e))
 have oW:h₁.get? s2.heap.objs.size=cz {cls:=.type "list",dict:=xn,data:=.seq ([]:List ak).toArray}:=nq.extBut _ _ BX (aF _ (Ai▸bo _ rfl));have Aq:∀b∈fp,b<s2.heap.objs.size:=λb hb=>by
  obtain⟨o,e,_⟩:=T.obj 0 _ lh b hb;exact aS e
 have BW:H2 s2.heap.objs.size=xn:=I2.hok.fresh (aA _);have Fb:H2 G2.objs.size=xn:=I2.hok.fresh uw;generalize yb:G2.objs.size=Cl at *;have CO:∀b∈frs X.stack,b<s2.heap.objs.size:=λb hb=>by
  rcases aG.mp (I2.stkSub b hb) with e|hb
  ·rw[e];exact I2.lt
  ·obtain⟨_,o,ho,_⟩:=I2.funs.mem hb;exact aS ho
 have yF:(K6 X N scope cl Cl s2 H2 fp).Ok:=by
  refine⟨I2.ok.mod,C.kind,I2.ok.glob,I2.ok.blt,uw,λx y c e1 e2=>I2.ok.inj x y c (C.sub x c e1) (C.sub y c e2),λx hx=>?_,λx c hx _=>(nomatch hx),λz=>I2.ok.hd z,I2.ok.frames,.inl rfl,λb hb=>⟨below b (Aq b hb),λx c e=>(f2 b hb).2.2.2.2.1 x c (C.sub x c e)⟩,
   I2.bs,cR I2.ok.bsz I2.sz,λb o e hb=>?_,λb hb z=>?_,I2.stack,I2.stkFree,I2.tabs⟩
  ·obtain⟨y,hy,rfl,ey⟩:=a1a C.ncell hx;exact C.has y hy ey
  ·rcases (f2 b hb).2.2.2.1 with z|z
   ·exact I2.ok.noex b o e z
   ·exact absurd (bb (aS e) (cR I2.ok.bsz z)) (dA _)
  ·rcases aG.mp (I2.stkSub b z) with e|e
   ·exact (f2 b hb).2.1 e
   ·exact (f2 b hb).2.2.1 e
 have I4:Inv (K6 X N scope cl Cl s2 H2 fp) pins (τ U) (upd H2 s2.heap.objs.size (.lst [])) {s2 with heap:=h₁,toks:=s2.toks+([]:List (bA×ak)).length}:=by
  have lc:=I2.loc;obtain⟨m,hn,hl⟩:=lc;refine⟨yF,rfl,I2.bare,Un.laid old (aA _) BW,⟨_,oQ,λi x v e1 e2 e3=>?_⟩,λx c e=>?_,?_,λx c e=>?_,λp hp=>?_,I2.hok.laid old (aA _) ⟨cG _,[],_,.nil,oW⟩,C.tlen U⟩
  ·obtain⟨j,j1,j2,j3,j4⟩:=C.tval U i x v e1 e2;have kx:(mB scope X.env).names.lookup x=cz .cell\/(mB scope X.env).names.lookup x=cz .free:=a5V j3;obtain⟨y,hy,Fh,ey⟩:=a1a C.ncell kx;obtain⟨c,uZ⟩:=C.has y hy ey;rw[Fh]at uZ;have zX:=C.sub x c uZ;have hv:Vis X.env.scope x:=.inr j4;obtain⟨u,ru,lk⟩:=hl j x v j1 j2 hv;refine⟨u,ru,?_⟩;rcases lk with⟨k,_⟩|⟨k,c',e',z⟩
   ·rcases j4 with j4|j4
    ·rw[j4]at k;cases k
    ·rw[j4]at k;cases k
   ·rw[zX]at e';cases e'
    obtain⟨o,ho,hd⟩:=z;exact .inr ⟨kx,c,uZ,⟨o,old c o ho,hd⟩⟩
  ·obtain⟨v,o,ho,hd⟩:=I2.cell x c (C.sub x c e);exact⟨v,o,old c o ho,hd⟩
  ·show upd H2 s2.heap.objs.size (.lst []) Cl=xn;rw[c9 (cV BX)];exact Fb
  ·have n:=I2.freeC x c (C.sub x c e);obtain⟨v,o,ho,hd⟩:=I2.cell x c (C.sub x c e);rw[c9 (bI (aS ho))];exact n
  ·obtain⟨e,n,ne,nf,d⟩:=I2.pin p hp;refine⟨old _ _ e,by rw[c9 (bI (aS e))];exact n,below _ (aS e),λz=>?_,d⟩;rcases aG.mp (I2.stkSub p.1 z) with e'|e'
   ·exact ne e'
   ·exact nf e'
 have oN:∀{H':Hp},(∀b∈fp,H' b=xn)->∀b∈fp,a4z (K6 X N scope cl Cl s2 H2 fp) pins H' b:=λhn b hb=>
  ⟨hn b hb,below b (Aq b hb),yF.exfs b hb,.inl hb,(yF.exf b hb).2,(f2 b hb).2.2.2.2.2⟩
 obtain⟨W,⟨m0,w0⟩,turn⟩:=q s2.heap.objs.size BW;have loop:∀s₃:au,s₃={s2 with heap:=h₁,toks:=s2.toks+([]:List (bA×ak)).length}->
   gQ (aX X.prog X.w) X.A (.compLoop (.ListComp elt [⟨tg,iter,ifs,0⟩] scope pos) 0 (.ref it) (.ref s2.heap.objs.size) (compEnvC scope cl Cl X.env)) (PP (.ref s2.heap.objs.size) Cl) s₃:=by
  rintro s₃ rfl;refine a4F (λn s'=>∃i ys U' H',Inv (K6 X N scope cl Cl s2 H2 fp) pins U' H' s'/\tn i s'.heap/\(∀b∈fp,H' b=xn)/\W i n ys U' H') ?_ m0
   ⟨0,[],τ U,_,I4,T.keep _ _ _ lh λb hb o e=>old b o e,λb hb=>by rw[c9 (bI (Aq b hb))];exact (f2 b hb).1,w0⟩
  rintro n s3 ⟨i,ys,U3,H3,I3,jx,xg,w3⟩;rcases turn i n ys U3 H3 w3 with⟨stop,qn⟩|⟨go,NN,NO,hN,hO,step⟩
  ·refine thn (T.done (K6 X N scope cl Cl s2 H2 fp) rfl rfl rfl hc i pins s3 U3 H3 _ I3 (oN xg) jx stop) λr s4 ⟨hr,I5⟩=>?_
   subst hr;have lc:=I5.loc;obtain⟨m,hn,_⟩:=lc;obtain⟨o,es,ep,ho,hd,jJ⟩:=hn;have J5:Inv X pins U H3 s4:=I2.call' (ch:=fp) I5.os I5.base I5.hok I5.bare λb hb=>⟨(f2 b hb).2.2.2.1,(f2 b hb).2.1,(f2 b hb).2.2.2.2.1,(f2 b hb).2.2.2.2.2⟩
   refine EU _ Cl H3 s4 o m J5 qn (I2.fpOk uw I5.free) ho (λv z=>by rw[hd]at z;cases z) λh' e=>⟨o,es,ep,e,hd,jJ⟩
  ·refine thn (T.item (K6 X N scope cl Cl s2 H2 fp) rfl rfl rfl hc i pins s3 U3 H3 _ I3 (oN xg) jx go) λr s4 ⟨u,hr,h4⟩=>?_
   subst hr;refine thn h4 λ_ s5 qz=>?_
   obtain⟨x,H5,I5,r5,y5,qE,Ao⟩:=qz;have AK:=I5.pinned (oN Ao) (T.obj _ _ qE);refine thn (hg Cl s2 H2 fp _ s5 U3 H5 x u _ AK r5 (step x H5 y5)) λ_ s6 ⟨U6,H6,I6,q6⟩=>?_
   refine thn (ht Cl s2 H2 fp _ s6 U6 H6 _ I6 q6) λok CP ⟨FR,yq,xE⟩=>?_
   cases ok with
   |false=>
    rw[aM cj]at xE ⊢;obtain⟨m',hm,w7⟩:=hO _ _ xE;refine⟨m',hm,i+1,ys,U6,_,yq.unpinned,T.keep _ _ _ qE λb hb o e=>(yq.pin (b,o) (ai _ (ai _ (D6 hb e)))).1,λb hb=>?_,w7⟩;obtain⟨o,e,d⟩:=T.obj _ _ qE b hb;exact (yq.pin (b,o) (ai _ (ai _ (D6 hb e)))).2.1
   |true=>
    rw[aE rfl]at xE ⊢;refine thn (he Cl s2 H2 fp _ CP U6 FR _ yq xE) λyv s7 qz=>?_
    obtain⟨y,H7,I7,r7,q7⟩:=qz;obtain⟨CU,CT,m',hm,w7⟩:=hN _ _ _ q7;refine thn (a0b (X:=K6 X N scope cl Cl s2 H2 fp) _ s7 U6 H7 (.ref s2.heap.objs.size) [y] (.ref s2.heap.objs.size) [yv] (λ_ H8=>H8=upd H7 s2.heap.objs.size (.lst (ys++[y]))) I7 rfl (.cons r7 .nil)
     ⟨_,ys,y,rfl,rfl,CU,CT,rfl⟩) λ_ s8 ⟨_,H8,I8,_,e8⟩=>?_
    subst e8;refine⟨m',hm,i+1,ys++[y],U6,_,I8.unpinned,T.keep _ _ _ qE λb hb o e=>(I8.pin (b,o) (ai _ (ai _ (D6 hb e)))).1,λb hb=>?_,w7⟩;obtain⟨o,e,d⟩:=T.obj _ _ qE b hb;exact (I8.pin (b,o) (ai _ (ai _ (D6 hb e)))).2.1
 have kO:tn 0 h₁:=T.keep _ _ _ lh λb hb o e=>old b o e
 exact codeAny_compStart_list (loop _ rfl) (T.self X.A 0 {s2 with heap:=h₁,toks:=s2.toks+([]:List (bA×ak)).length} _ _ kO (loop _ rfl))
end
def w6(env:nQ):List (bA×jd)->List (bA×aw)->List (bA×aw)
 |[],cs=>cs
 | (n,k)::r,cs=>w6 env r (if k==.free then (n,(env.cells.lookup n).getD 0)::cs else cs)
theorem W8{env:nQ}:∀(names:List (bA×jd)) (cs:List (bA×aw)),(∀y∈names,y.2=.free->∃c,env.cells.lookup y.1=cz c)->
  (forIn names cs λ(x:bA×jd) (cs:List (bA×aw))=>(if x.2==.free then do let a <-cellOf env x.1;pure (fG ((x.1,a)::cs)) else pure (fG cs):AD (ForInStep (List (bA×aw)))))=pure (w6 env names cs)
 |[],cs,_=>by rw[q_];rfl
 | (n,k)::r,cs,h=>by
  rw[qm]
  dsimp only
  by_cases hk:(k==fE)=yn
  ·obtain⟨c,hc⟩:=h (n,k) aN (by simpa using hk);rw[aE hk];have e:cellOf env n=pure c:=by unfold cellOf;rw[hc]
   rw[e];have:=W8 r ((n,c)::cs) λy hy=>h y (ax _ hy)
   have e2:w6 env ((n,k)::r) cs=w6 env r ((n,c)::cs):=by
    show w6 env r (if k==.free then (n,(env.cells.lookup n).getD 0)::cs else cs)=_;rw[aE hk,hc];rfl
   rw[e2,<-this];simp only[pure_bind]
  ·rw[aM hk];have:=W8 r cs λy hy=>h y (ax _ hy)
   have e2:w6 env ((n,k)::r) cs=w6 env r cs:=by
    show w6 env r (if k==.free then (n,(env.cells.lookup n).getD 0)::cs else cs)=_;rw[aM hk]
   rw[e2,<-this];simp only[pure_bind]
def a8u{scope:gK}{env:nQ}(h:∀y∈scope.names,y.2=.free->∃c,env.cells.lookup y.1=cz c):pY scope env=pure (w6 env scope.names []):=by
 have:=W8 scope.names [] h;rw[<-this];unfold pY;simp
theorem a0I{env:nQ}:∀(names:List (bA×jd)) (cs:List (bA×aw)),(∀y∈names,y.2=.free->∃c,env.cells.lookup y.1=cz c)->(∀p∈cs,env.cells.lookup p.1=cz p.2)->
  (∀p∈w6 env names cs,env.cells.lookup p.1=cz p.2)/\(∀p∈cs,p∈w6 env names cs)/\∀y∈names,y.2=.free->∃c,(y.1,c)∈w6 env names cs
 |[],cs,_,hc=>⟨hc,λ_ h=>h,λy hy=>(nomatch hy)⟩
 | (n,k)::r,cs,h,hc=>by
  by_cases hk:(k==fE)=yn
  ·obtain⟨c,e⟩:=h (n,k) aN (by simpa using hk);have e2:w6 env ((n,k)::r) cs=w6 env r ((n,c)::cs):=by
    show w6 env r (if k==.free then (n,(env.cells.lookup n).getD 0)::cs else cs)=_;rw[aE hk,e];rfl
   rw[e2];obtain⟨a,b,d⟩:=a0I r ((n,c)::cs) (λy hy=>h y (ax _ hy)) λp hp=>by
    rcases aG.mp hp with z|z
    ·rw[z];exact e
    ·exact hc p z
   refine⟨a,λp hp=>b p (ax _ hp),λy hy hf=>?_⟩;rcases aG.mp hy with z|z
   ·rw[z];exact⟨c,b _ aN⟩
   ·exact d y z hf
  ·have e2:w6 env ((n,k)::r) cs=w6 env r cs:=by
    show w6 env r (if k==.free then (n,(env.cells.lookup n).getD 0)::cs else cs)=_;rw[aM hk]
   rw[e2];obtain⟨a,b,d⟩:=a0I r cs (λy hy=>h y (ax _ hy)) hc;refine⟨a,b,λy hy hf=>?_⟩;rcases aG.mp hy with z|z
   ·rw[z]at hf;exact absurd (by simpa using hf) hk
   ·exact d y z hf
theorem a0t:∀{l:List (bA×aw)},(x,c)∈l->∃c',l.lookup x=cz c'
 |[],h=>nomatch h
 | (y,d)::l,h=>by
  rw[fT];cases e:x==y with
  |true=>exact⟨d,rfl⟩
  |false=>
   rcases aG.mp h with z|z
   ·cases z;simp at e
   ·exact a0t z
def T7(scope:gK)(okind:bA->Option jd)(ys:List bA)(js:List Nat)(XN:List bA):Bool:=
 scope.kind==.function&&scope.names.all (λy=>y.2 !=.cell&&(y.2 !=.local||scope.names.lookup y.1==cz .local)&&(y.2 !=.free||(okind y.1==cz .cell||okind y.1==cz .free))) &&
 ys.length==js.length&&(ys.zip js).all λp=>XN[p.2]?==cz p.1&&scope.names.lookup p.1==cz .free&&(okind p.1==cz .cell||okind p.1==cz .free)
def a1x(tn:List bA)(js:List Nat):St->St:=λU=>aP tn.length xn++js.map λj=>(U[j]?).getD xn
def a5d{X:Cx}{scope:gK}(ok:X.Ok)(h:T7 scope X.env.kindOf ys js X.N=yn):CompIn X (tn++ys) scope (w6 X.env scope.names []) (a1x tn js):=by
 unfold T7 at h;rw[aD,aD,aD,dN,dN]at h;obtain⟨⟨⟨hk,ha⟩,hl⟩,hz⟩:=h;have mV:∀y∈scope.names,y.2≠.cell:=λy hy e=>by
  have:=ha y hy;rw[e]at this;simp at this
 have zD:∀y∈scope.names,y.2=.local->scope.names.lookup y.1=cz .local:=λy hy e=>by
  have:=ha y hy;rw[e]at this;simpa using this
 have lz:∀y∈scope.names,y.2=.free->∃c,X.env.cells.lookup y.1=cz c:=λy hy e=>by
  have:=ha y hy;rw[e]at this;refine ok.has y.1 ?_;simpa using this
 obtain⟨a,_,d⟩:=a0I scope.names [] lz λp hp=>(nomatch hp)
 refine⟨a8u lz,by simpa using hk,mV,zD,λx c e=>a _ (cA e),λy hy e=>?_,λU=>?_,λU i x v h1 h2=>?_⟩
 ·obtain⟨c,hc⟩:=d y hy e;exact a0t hc
 ·have:ys.length=js.length:=by simpa using hl
  unfold a1x;simp[this]
 ·unfold a1x at h2;by_cases hi:i<tn.length
  ·rw[dO (by simpa using hi),tm]at h2
   split at h2<;>cases h2
  ·rw[cQ (by simpa using hi),gy,a_]at h2;rw[cQ (by lia)]at h1;cases hj:js[i-tn.length]? with
   |none=>rw[hj]at h2;cases h2
   |some j=>
    rw[hj]at h2;have h3:(U[j]?).getD xn=cz v:=by simpa using h2
    have iK:(x,j)∈ys.zip js:=by
     have hlen:=(aO.mp h1).1;have BA:=(aO.mp hj).1;rw[cZ];refine⟨i-tn.length,?_⟩;rw[rz];exact⟨h1,hj⟩
    have:=hz _ iK;rw[aD,aD,lG]at this;obtain⟨⟨e1,e2⟩,e3⟩:=this;refine⟨j,by simpa using e1,?_,by simpa using e2,by simpa using e3⟩;cases q:U[j]? with
    |none=>rw[q]at h3;cases h3
    |some o=>rw[q]at h3;have:o=cz v:=h3;rw[this]
section
variable {X:Cx}{tn ys:List bA}{js:List Nat}{scope:gK}{elt tg iter:Expr}{ifs:List Expr}{pos:fS}{wi:TI}{g:TG}{tt:TT}{te:TE}
def a6V(hc:X.calm=yn)(hi:PI X tg iter wi)(C:T7 scope X.env.kindOf ys js X.N=yn)(hg:∀cl Cl s H fp,PG (K6 X (tn++ys) scope cl Cl s H fp) tg g)(ht:∀cl Cl s H fp,PTs (K6 X (tn++ys) scope cl Cl s H fp) ifs tt)(he:∀cl Cl s H fp,PE (K6 X (tn++ys) scope cl Cl s H fp) elt te)
  (hs:∀x,eK iter X.env x=pure x:=by intro _;rfl):PE X (.ListComp elt [⟨tg,iter,ifs,0⟩] scope pos) (a5W wi g tt te (a1x tn js)):=by
 intro pins s U H Q I h;have C:=a5d (tn:=tn) I.ok C;rw[eval_ListComp];refine yt (use:=xn) rfl hs C.clos C.kind C.names (a5c hc hi C (hg _) (ht _) (he _) I h (PP:=λacc Cl=>compPost (aX X.prog X.w) X.A X.xe xn (EP X pins U Q) acc Cl) ?_);intro D Cl Hn s' o m I' hq F ho hd qy;refine⟨m,qy _ ho,λh' iZ=>⟨.ref D,Hn,?_,rfl,hq⟩⟩;exact I'.turned (t':=s'.toks) (λb ob hb e=>(iZ.2 b hb).trans e) F.1 F.2.1 F.2.2.2.1 F.2.2.2.2.1 F.2.2.2.2.2
def a6W{py tz:fS}(hc:X.calm=yn)(hN:X.N.Nodup)(hy:X.N[i]?=cz y)(hx:Loc X.env.scope y)(hi:PI X tg iter wi)(C:T7 scope X.env.kindOf ys js X.N=yn)
  (hg:∀cl Cl s H fp,PG (K6 X (tn++ys) scope cl Cl s H fp) tg g) (ht:∀cl Cl s H fp,PTs (K6 X (tn++ys) scope cl Cl s H fp) ifs tt) (he:∀cl Cl s H fp,PE (K6 X (tn++ys) scope cl Cl s H fp) elt te)
  (pQ:eR (.ListComp elt [⟨tg,iter,ifs,0⟩] scope pos) (cz (.Name y py)) tz.line X.env=pure yn:=by rfl) (hs:∀x,eK iter X.env x=pure x:=by intro _;rfl)
  (hf:autoParam (X.fn y=yn\/X.env.scope.names.lookup y=cz .local) ZZ._auto_1) :
  PS X (.Assign [.Name y py] (.ListComp elt [⟨tg,iter,ifs,0⟩] scope pos) tz) (b8S (a5W wi g tt te (a1x tn js)) (M7 i)):=by
 intro pins s U H D I h;have C:=a5d (tn:=tn) I.ok C;rw[exec_Assign_Name_used _ _ _ _ pQ];refine af (pj (af ?_));show aZ _ X.A (do let _ <-comprehension (.ListComp elt [⟨tg,iter,ifs,0⟩] scope pos) scope X.env _ (newList []) yH (cD iter X.env) (cz (pZ (.Name y py) X.env))) _ _ s;refine af (dh (yt (use:=cz (pZ (.Name y py) X.env)) (Q:=λ_ s'=>SP X pins D .next s') rfl hs C.clos C.kind C.names
  (a5c hc hi C (hg _) (ht _) (he _) I h (PP:=λacc Cl=>compPost (aX X.prog X.w) X.A X.xe (cz (pZ (.Name y py) X.env)) (λ_ s'=>SP X pins D .next s') acc Cl) ?_)) (λ_ s' hq=>aC (aC hq)) λ_ _ e=>e)
 intro Dl Cl Hn s' o m I' hq F ho hd qy;have I1:=I'.pinned (fp:=[Cl]) (λb hb=>by rw[ar.mp hb];exact F) (λb hb=>by rw[ar.mp hb];exact⟨o,ho,hd⟩);show aZ _ X.A (pZ (.Name y py) X.env (.ref Dl)) _ _ _;refine wpAny_assign_Name (W7 I1 hN hy hx (v:=.ref Dl) rfl (λs2 I2=>?_) hf);have e2:=(I2.pin (Cl,o) (ai _ (ai _ (D6 (ar.mpr rfl) ho)))).1;refine⟨m,qy _ e2,λh' iZ=>⟨U.set i (cz (.ref Dl)),Hn,?_,hq⟩⟩;exact I2.unpinned.turned (t':=s2.toks) (λb ob hb e=>(iZ.2 b hb).trans e) F.1 F.2.1 F.2.2.2.1 F.2.2.2.2.1 F.2.2.2.2.2
end
end L2
namespace VS
open PySem.Spec L2
abbrev D:=br
mutual
def C5:D->Bool
 |.int _=>yn
 |.tuple ds=>o7 ds
 |.none|.bool _|.str _|.list _|.dict _=>yH
def o7:List D->Bool
 |[]=>yn
 |d::ds=>C5 d&&o7 ds
end
mutual
def hashD:D->Int
 |.int i=>hashInt i
 |.tuple ds=>reduceHash (eP (A6 ds))
 |.none|.bool _|.str _|.list _|.dict _=>0
def A6:List D->List Int
 |[]=>[]
 |d::ds=>hashD d::A6 ds
end
mutual
def r9:D->Nat
 |.int _=>1
 |.tuple ds=>R6 ds+1
 |.none|.bool _|.str _|.list _|.dict _=>0
def R6:List D->Nat
 |[]=>0
 |d::ds=>r9 d+R6 ds
end
mutual
theorem W9:∀d:D,C5 d=yn->d.canLay0=yn
 |.int _,_=>by simp only[dm]
 |.tuple ds,h=>by
  simp only[C5]at h;simp only[dm];exact a2i ds h
 |.none,h|.bool _,h|.str _,h|.list _,h|.dict _,h=>by simp only[C5]at h;cases h
theorem a2i:∀ds:List D,o7 ds=yn->bh ds=yn
 |[],_=>by simp only[bh]
 |d::ds,h=>by
  simp only[o7,aD]at h;simp only[bh,aD];exact⟨W9 d h.1,a2i ds h.2⟩
end
mutual
theorem F5:∀a b:D,C5 a=yn->C5 b=yn->(aI a b=yn↔a=b)
 |.int i,b,_,hb=>by
  cases b with
  |int j=>
   show (i==j)=yn↔_;rw[ny];exact⟨λe=>by rw[e],λe=>by injection e⟩
  |tuple ds=>simp[aI]
  |_=>simp only[C5]at hb;cases hb
 |.tuple xs,b,ha,hb=>by
  cases b with
  |int j=>simp[aI]
  |tuple ys=>
   simp only[C5]at ha hb;simp only[aI];rw[a2j xs ys ha hb];exact⟨λe=>by rw[e],λe=>by injection e⟩
  |_=>simp only[C5]at hb;cases hb
 |.none,b,h,_|.bool _,b,h,_|.str _,b,h,_|.list _,b,h,_|.dict _,b,h,_=>by simp only[C5]at h;cases h
theorem a2j:∀a b:List D,o7 a=yn->o7 b=yn->(bT a b=yn↔a=b)
 |[],[],_,_=>by simp[bT]
 |[],_::_,_,_=>by simp[bT]
 |_::_,[],_,_=>by simp[bT]
 |x::xs,y::ys,ha,hb=>by
  simp only[o7,aD]at ha hb;simp only[bT,aD];rw[F5 x y ha.1 hb.1,a2j xs ys ha.2 hb.2]
  constructor
  ·rintro⟨rfl,rfl⟩;rfl
  ·intro e;injection e with e1 e2;exact⟨e1,e2⟩
end
mutual
theorem a3g{h h':cB}{es ep}(ho:h.get? d=cz o)(hd:o.data=.dict es ep)(hs:kB d h h'):∀(k:D) {v:ak} {as:List aw},C5 k=yn->Reads h v k as->Reads h' v k as
 |.int _,_,_,_,r=>by cases r;exact .int _ _
 |.tuple ds,_,_,hk,r=>by
  simp only[C5]at hk;cases r with
  |@tuple a oo vs n _ as c1 c2 c3 c4=>
   have jg:a≠d:=by
    rintro rfl;obtain rfl:oo=o:=aK (c1.symm.trans ho);rw[hd]at c3;exact nomatch c3
   exact .tuple ((hs.2 a jg).trans c1) c2 c3 (a0u ho hd hs ds hk c4)
 |.none,_,_,h,_|.bool _,_,_,h,_|.str _,_,_,h,_|.list _,_,_,h,_|.dict _,_,_,h,_=>by simp only[C5]at h;cases h
theorem a0u{h h':cB}{es ep}(ho:h.get? d=cz o)(hd:o.data=.dict es ep)(hs:kB d h h'):∀(ks:List D) {vs:List ak} {as:List aw},o7 ks=yn->jc h vs ks as->jc h' vs ks as
 |[],_,_,_,r=>by cases r;exact .nil
 |k::ks,_,_,hk,r=>by
  simp only[o7,aD]at hk;cases r with
  |cons r1 r2=>exact .cons (a3g ho hd hs k hk.1 r1) (a0u ho hd hs ks hk.2 r2)
end
section
variable {prog:bu}{w:bV}{E:ak->au->Prop}
mutual
theorem a3h:∀(k:D) {A:bP} {s:au} {v:ak} {as:List aw} {Q:Int->au->Prop},C5 k=yn->A.units+k.depth<dY->Reads s.heap v k as->Q (hashD k) {s with toks:=s.toks+r9 k}->aZ (aX prog w) A (pyHash v) Q E s
 |.int i,A,s,v,as,Q,_,_,r,h=>by
  cases r
  simp only[hashD,r9]at h;exact wpAny_pyHash_int h
 |.tuple ds,A,s,v,as,Q,hk,hu,r,h=>by
  simp only[C5]at hk;simp only[eL]at hu;simp only[hashD,r9]at h;cases r with
  |@tuple a o items n _ as ho hc hd hi=>
   have hT:s.TypeIs (.ref a) "tuple":=⟨o,ho,hc⟩;unfold pyHash
   first|unfold pyHashByItsType|skip
   first|refine af (wpAny_cRoomFor_or (.inr (by lia)) ?_)|skip
   refine af (gI hT lE.lookup ?_);show aZ _ _ (if (cz (ak.builtin "tuple.__hash__")==cz bx)=yn then _ else _) Q E s;rw[aM (by rw[beq_builtin_none];exact cj)];refine af (gI hT lE.lookup ?_);show aZ _ _ (callSpecialIfBoundUnlessNone? (.ref a) "__hash__" _ >>= _) Q E s;refine af (wpAny_callSpecialIfBoundUnlessNone?_slot hT lE (et lE hT F.entry_tuple_hash ?_ (F.args_tuple_hash_1 _)));show aZ _ _ (Builtin.Tuple.tupleItemsOf (.ref a) >>= _) _ _ s;refine af (wpAny_tupleItemsOf ho hd ?_);refine af ?_;rw[<-jT];refine a5e ds (A:=A.in1) (acc:=#[]) hk (by show A.units+1+_<_;lia) hi ?_;show aZ _ _ (retInt (eP _)) _ _ _;simp only[mQ,bM];refine wpAny_ret_mkInt ?_;show aZ _ _ (if (decide (-(2:Int)^63<=eP (A6 ds))&&decide (eP (A6 ds)<2^63))=yn then _ else _) Q E _;unfold reduceHash at h;by_cases hr:(decide (-(2:Int)^63<=eP (A6 ds))&&decide (eP (A6 ds)<2^63))=yn
   ·rw[aE hr];rw[aE hr]at h;exact aC (by simpa[gr]using h)
   ·rw[aM hr];rw[aM hr]at h;exact af (iJ (aC (by simpa[gr]using h)))
 |.none,_,_,_,_,_,h,_,_,_|.bool _,_,_,_,_,_,h,_,_,_|.str _,_,_,_,_,_,h,_,_,_|.list _,_,_,_,_,_,h,_,_,_|.dict _,_,_,_,_,_,h,_,_,_=>by simp only[C5]at h;cases h
theorem a5e:∀(ks:List D) {A:bP} {s:au} {vs:List ak} {as:List aw} {acc:Array Int} {Q:Array Int->au->Prop},o7 ks=yn->A.units+cX ks<dY->jc s.heap vs ks as->Q (acc++(A6 ks).toArray) {s with toks:=s.toks+R6 ks}->
  aZ (aX prog w) A (forIn vs acc λx r=>do let r1 <-pyHash x;pure PUnit.unit;pure (fG (r.push r1))) Q E s
 |[],A,s,vs,as,acc,Q,_,_,r,h=>by
  cases r
  rw[q_];exact aC (by simpa[A6,R6]using h)
 |k::ks,A,s,vs,as,acc,Q,hk,hu,r,h=>by
  simp only[o7,aD]at hk;simp only[cX]at hu;cases r with
  |cons r1 r2=>
   rw[qm];refine af (af (a3h k hk.1 (by lia) r1 ?_));refine af (aC (aC ?_));refine a5e ks (s:={s with toks:=s.toks+r9 k}) hk.2 (by lia) r2 ?_;simp only[A6,R6]at h;have e:(acc.push (hashD k))++(A6 ks).toArray=acc++(hashD k::A6 ks).toArray:=by simp
   rw[e];simpa[gr]using h
end
end
section
variable {prog:bu}{w:bV}{A:bP}{E:ak->au->Prop}
mutual
theorem a5f:∀(k:D) (n:Nat) {s:au} {v:ak} {as:List aw} {Q:Bool->au->Prop},C5 k=yn->k.depth<=n->Reads s.heap v k as->Q yn s->aZ (aX prog w) A (eqIsQuiet n v) Q E s
 |.int i,n,s,v,as,Q,_,_,r,h=>by
  cases r
  rw[eqIsQuiet_byValue n (v:=.int i _) rfl];exact aC h
 |.tuple ds,0,s,v,as,Q,_,hn,_,_=>by simp only[eL]at hn;lia
 |.tuple ds,n+1,s,v,as,Q,hk,hn,r,h=>by
  simp only[C5]at hk;simp only[eL]at hn;cases r with
  |@tuple a o items m _ as ho hc hd hi=>
   have hT:s.TypeIs (.ref a) "tuple":=⟨o,ho,hc⟩;unfold eqIsQuiet;refine af (gI hT F.slot_tuple_eq.lookup ?_);show aZ _ _ (isInstance (.ref a) (.type "tuple") >>= _) _ _ s;refine af (lX hT isSubtype_tuple_tuple ?_);simp only[ic,bz,du];refine af (vq ho hd ?_);refine af ?_;show aZ _ _ (forIn items _ _) _ _ s;rw[<-jT];refine wpAny_forIn_list _ (λrest r s'=>r.1=xn/\s'=s/\∃ks bs,o7 ks=yn/\cX ks<=n/\(∀k∈ks,k∈ds)/\jc s.heap rest ks bs) _ ?_ ?_ _ _ ⟨rfl,rfl,ds,as,hk,by lia,λk hk=>hk,hi⟩
   ·rintro v rest r s' ⟨hr,rfl,ks,bs,k1,k2,k3,k4⟩;cases k4 with
    |@cons _ _ d' jU _ _ r1 r2=>
     simp only[o7,aD]at k1;simp only[cX]at k2;refine af (a5g ds n hk (by lia) d' (k3 d' aN) r1 ?_);simp only[ic,bz,du];exact aC ⟨rfl,rfl,_,_,k1.2,by lia,λk hk=>k3 k (ax _ hk),r2⟩
   ·rintro⟨r1,r2⟩ s' ⟨hr,rfl,_⟩;simp only at hr;subst hr;exact aC h
 |.none,_,_,_,_,_,h,_,_,_|.bool _,_,_,_,_,_,h,_,_,_|.str _,_,_,_,_,_,h,_,_,_|.list _,_,_,_,_,_,h,_,_,_|.dict _,_,_,_,_,_,h,_,_,_=>by simp only[C5]at h;cases h
theorem a5g:∀(ds:List D) (n:Nat),o7 ds=yn->cX ds<=n->∀k∈ds,∀{s:au} {v:ak} {as:List aw} {Q:Bool->au->Prop},Reads s.heap v k as->Q yn s->aZ (aX prog w) A (eqIsQuiet n v) Q E s
 |[],n,_,_,k,hk,s,v,as,Q,r,h=>nomatch hk
 |d::ds,n,ly,hn,k,hk,s,v,as,Q,r,h=>by
  simp only[o7,aD]at ly;simp only[cX]at hn;rcases aG.mp hk with e|hk
  ·rw[e]at r;exact a5f d n ly.1 (by lia) r h
  ·exact a5g ds n ly.2 (by lia) k hk r h
end
end
noncomputable def b1n:DecidableEq D:=λa b=>Classical.propDecidable (a=b)
noncomputable def b3j(prog:bu)(w:bV):@HeapKind prog w D b1n:=
 letI:DecidableEq D:=b1n
 {
  is:=λh k a=>C5 k=yn/\k.depth<=7/\∃as,Reads h (.ref a) k as
  hash:=hashD
  draws:=r9
  room:=λA=>A.units+8<dY
  inj:=λ⟨hx,_,_,r⟩ ⟨_,_,_,r'⟩=>SeqAt.Reads.unique _ _ _ _ _ (W9 _ hx) r r'
  keeps:=λ⟨hx,hd,_,r⟩ ho ke hs=>⟨hx,hd,_,a3g ho ke hs _ hx r⟩
  pyHash:=λhu ⟨hx,hd,_,r⟩ h=>a3h _ hx (by lia) r h
  eqBool:=λ{A E s x y a b Q} hu ⟨hx,hd,_,r⟩ ⟨hy,ke,_,r'⟩ h=>by
   refine se x y A s _ _ _ _ r r' (W9 _ hx) (W9 _ hy) (by have:=lA x.depth y.depth;lia) _ _ _ _ ?_;have e:aI x y=@decide (x=y) (b1n x y):=by
    by_cases c:x=y
    ·rw[@aL _ (b1n x y) c];exact (F5 x y hx hy).mpr c
    ·rw[@aW _ (b1n x y) c];cases q:aI x y with
     |false=>rfl
     |true=>exact absurd ((F5 x y hx hy).mp q) c
   rw[e];exact h
  quiet:=λ⟨hx,hd,_,r⟩ h=>a5f _ 8 hx (by lia) r h
 }
def a0v(e:D×V×V)(x:iP):Prop:=x.hash=hashD e.1/\RelV e.2.1 x.key/\RelV e.2.2 x.val
def i9(a:aw)(es:List (D×V×V)):HO:=.ext λh=>(a==dG)=yH/\es.length<=bg/\(es.map (·.1)).Nodup/\∃o ents ep,h.get? a=cz o/\o.ExactDict/\o.data=.dict ents ep/\gg a0v es ents.toList
def Mu:HO->Prop
 |.lst _=>True
 |.dK _=>True
 |.ext _=>True
 |_=>False
abbrev MuO:={o:HO // Mu o}
def keyOk(kt:Bool)(k:D):Prop:=C5 k=yn/\k.depth<=7/\(kt=yn->∃ds,k=.tuple ds)/\(kt=yH->∃i,k=.int i)
end VS
namespace VS
open L2
mutual
def imm:br->Bool
 |.none=>yn
 |.bool _=>yn
 |.int _=>yn
 |.str _=>yn
 |.list _=>yH
 |.tuple ds=>g6 ds
 |.dict _=>yH
def g6:List br->Bool
 |[]=>yn
 |d::ds=>imm d&&g6 ds
end
def SqX(K:ae)(H:Hp)(a:aw)(xs:List V):Prop:=
 Rd H a (.lst xs)\/∃(its:List ak) (n:Nat),K.lookup a=cz {cls:=.type "list",data:=.seq its.toArray n}/\its.length<=bg/\Vals xs its
def SqX.l(h:SqX K H a xs):SqL K H a xs:=by
 rcases h with h|⟨its,n,h1,h2,h3⟩
 ·exact .inl h
 ·exact .inr ⟨_,its.toArray,n,h1,rfl,rfl,rfl,by simpa using h2,by simpa using h3⟩
theorem SqX.ok{X:Cx}(h:SqX X.K H a xs)(I:Inv X pins U H s):xs.length<=bg/\∃(its:List ak) (n:Nat),Vals xs its/\s.heap.get? a=cz {cls:=.type "list",data:=.seq its.toArray n}:=by
 rcases h with h|⟨its,n,h1,h2,h3⟩
 ·exact h.ok I.hok
 ·exact⟨by rw[h3.length];exact h2,its,n,h3,I.kIn _ _ h1⟩
mutual
theorem X0:∀d:br,C5 d=yn->imm d=yn
 |.int _,_=>by simp only[imm]
 |.tuple ds,h=>by
  simp only[C5]at h;simp only[imm];exact a2k ds h
 |.none,h|.bool _,h|.str _,h|.list _,h|.dict _,h=>by simp only[C5]at h;cases h
theorem a2k:∀ds:List br,o7 ds=yn->g6 ds=yn
 |[],_=>by simp only[g6]
 |d::ds,h=>by
  simp only[o7,aD]at h;simp only[g6,aD];exact⟨X0 d h.1,a2k ds h.2⟩
end
mutual
def Den(K:ae)(H:Hp):V->br->Prop
 |v,.none=>v=.non
 |v,.bool b=>v=.bl b
 |v,.int i=>v=.int i
 |v,.str x=>v=.str x
 |v,.list ds=>∃a xs,v=.ref a/\SqX K H a xs/\DenAll K H xs ds
 |v,.tuple ds=>∃a xs,v=.ref a/\SqT K H a xs/\DenAll K H xs ds
 |v,.dict kvs=>∃a es,v=.ref a/\H a=cz (i9 a es)/\DenKV K H es kvs
def DenAll(K:ae)(H:Hp):List V->List br->Prop
 |xs,[]=>xs=[]
 |xs,d::ds=>∃v r,xs=v::r/\Den K H v d/\DenAll K H r ds
def DenKV(K:ae)(H:Hp):List (br×V×V)->List (br×br)->Prop
 |es,[]=>es=[]
 |es,(k,d)::r=>∃e q,es=e::q/\e.1=k/\Den K H e.2.1 k/\Den K H e.2.2 d/\DenKV K H q r
end
def Rd.up(h:Rd H a u)(e:Same H H'):Rd H' a u:=by
 rcases h with h|⟨o,h⟩
 ·exact .inl (e _ _ h)
 ·exact .inr ⟨o,e _ _ h⟩
def P9(h:SqX K H a xs)(e:Same H H'):SqX K H' a xs:=h.imp (λq=>Rd.up q e) id
def a0J(h:SqT K H a xs)(e:Same H H'):SqT K H' a xs:=h.imp (λq=>Rd.up q e) id
mutual
theorem Den.mono{K:ae}{H H':Hp}(e:Same H H'):∀(d:br) {v:V},Den K H v d->Den K H' v d
 |.none,_,h=>by simpa only [Den]using h
 |.bool _,_,h=>by simpa only [Den]using h
 |.int _,_,h=>by simpa only [Den]using h
 |.str _,_,h=>by simpa only [Den]using h
 |.list ds,_,h=>by
  simp only[Den]at h ⊢;obtain⟨a,xs,h1,h2,h3⟩:=h;exact⟨a,xs,h1,P9 h2 e,DenAll.mono e ds h3⟩
 |.tuple ds,_,h=>by
  simp only[Den]at h ⊢;obtain⟨a,xs,h1,h2,h3⟩:=h;exact⟨a,xs,h1,a0J h2 e,DenAll.mono e ds h3⟩
 |.dict kvs,_,h=>by
  simp only[Den]at h ⊢;obtain⟨a,es,h1,h2,h3⟩:=h;exact⟨a,es,h1,e _ _ h2,DenKV.mono e kvs h3⟩
theorem DenAll.mono{K:ae}{H H':Hp}(e:Same H H'):∀(ds:List br) {xs:List V},DenAll K H xs ds->DenAll K H' xs ds
 |[],_,h=>by simpa only [DenAll]using h
 |d::ds,_,h=>by
  simp only[DenAll]at h ⊢;obtain⟨v,r,h1,h2,h3⟩:=h;exact⟨v,r,h1,Den.mono e d h2,DenAll.mono e ds h3⟩
theorem DenKV.mono(e:Same H H'):∀(kvs:List (br×br)) {es:List (br×V×V)},DenKV K H es kvs->DenKV K H' es kvs
 |[],_,h=>by simpa only [DenKV]using h
 | (k,d)::r,_,h=>by
  simp only[DenKV]at h ⊢;obtain⟨x,q,h1,h2,h3,h4,h5⟩:=h;exact⟨x,q,h1,h2,Den.mono e k h3,Den.mono e d h4,DenKV.mono e r h5⟩
end
section
variable {K:ae}{H H':Hp}
def Den.up{d:br}{v:V}(h:Den K H v d)(e:Same H H'):Den K H' v d:=Den.mono e d h
def DenAll.up{ds:List br}{xs:List V}(h:DenAll K H xs ds)(e:Same H H'):DenAll K H' xs ds:=DenAll.mono e ds h
def den_none:Den K H .non .none:=by simp only[Den]
def den_bool{b:Bool}:Den K H (.bl b) (.bool b):=by simp only[Den]
def den_int{i:Int}:Den K H (.int i) (.int i):=by simp only[Den]
def den_str{x:bA}:Den K H (.str x) (.str x):=by simp only[Den]
def den_list{a:aw}{xs:List V}{ds:List br}(h:SqX K H a xs)(q:DenAll K H xs ds):Den K H (.ref a) (.list ds):=by
 simp only[Den];exact⟨a,xs,rfl,h,q⟩
def den_tup{a:aw}{xs:List V}{ds:List br}(h:SqT K H a xs)(q:DenAll K H xs ds):Den K H (.ref a) (.tuple ds):=by
 simp only[Den];exact⟨a,xs,rfl,h,q⟩
theorem a6X:∀{es:List (br×V×V)} {ds:List br},(∀e∈es,Den K H e.2.1 e.1)->DenAll K H (es.map (·.2.2)) ds->DenKV K H es ((es.map (·.1)).zip ds)
 |[],ds,_,h=>by
  cases ds with
  |nil=>simp only[cW,oy,DenKV]
  |cons d ds=>simp only[DenAll]at h;obtain⟨v,r,h1,_⟩:=h;cases h1
 |e::es,ds,hk,h=>by
  cases ds with
  |nil=>simp only[DenAll]at h;cases h
  |cons d ds=>
   simp only[DenAll]at h;obtain⟨v,r,h1,h2,h3⟩:=h;cases h1
   simp only[ay,dq,DenKV];exact⟨e,es,rfl,rfl,hk e aN,h2,a6X (λe he=>hk e (ax _ he)) h3⟩
def a5h(h:H a=cz (i9 a es))(hk:∀e∈es,Den K H e.2.1 e.1)(hv:DenAll K H (es.map (·.2.2)) ds):Den K H (.ref a) (.dict ((es.map (·.1)).zip ds)):=by
 simp only[Den];exact⟨a,es,rfl,h,a6X hk hv⟩
def denAll_nil:DenAll K H [] []:=by simp only[DenAll]
def denAll_cons{v:V}{d:br}{xs:List V}{ds:List br}(h:Den K H v d)(q:DenAll K H xs ds):DenAll K H (v::xs) (d::ds):=by
 simp only[DenAll];exact⟨v,xs,rfl,h,q⟩
def Den.list_inv{v:V}{ds:List br}(h:Den K H v (.list ds)):∃a xs,v=.ref a/\SqX K H a xs/\DenAll K H xs ds:=by simpa only [Den]using h
def Den.tup_inv{v:V}{ds:List br}(h:Den K H v (.tuple ds)):∃a xs,v=.ref a/\SqT K H a xs/\DenAll K H xs ds:=by simpa only [Den]using h
def Den.dict_inv(h:Den K H v (.dict kvs)):∃a es,v=.ref a/\H a=cz (i9 a es)/\DenKV K H es kvs:=by simpa only [Den]using h
theorem DenKV.keys:∀{kvs:List (br×br)} {es:List (br×V×V)},DenKV K H es kvs->es.map (·.1)=kvs.map (·.1)
 |[],_,h=>by simp only[DenKV]at h;rw[h];rfl
 | (k,d)::r,_,h=>by
  simp only[DenKV]at h;obtain⟨e,q,rfl,h1,_,_,h2⟩:=h;rw[ay,ay,DenKV.keys h2,h1]
theorem DenKV.vals:∀{kvs:List (br×br)} {es:List (br×V×V)},DenKV K H es kvs->DenAll K H (es.map (·.2.2)) (kvs.map (·.2))
 |[],_,h=>by simp only[DenKV]at h;rw[h];simp only[cW,DenAll]
 | (k,d)::r,_,h=>by
  simp only[DenKV]at h;obtain⟨e,q,rfl,_,_,h1,h2⟩:=h;simp only[ay,DenAll];exact⟨_,_,rfl,h1,DenKV.vals h2⟩
theorem DenKV.kden:∀{kvs:List (br×br)} {es:List (br×V×V)},DenKV K H es kvs->∀e∈es,Den K H e.2.1 e.1
 |[],_,h,e,he=>by simp only[DenKV]at h;rw[h]at he;cases he
 | (k,d)::r,_,h,e,he=>by
  simp only[DenKV]at h;obtain⟨e0,q,rfl,h0,h1,_,h2⟩:=h;rcases aG.mp he with z|z
  ·subst z;rw[h0];exact h1
  ·exact DenKV.kden h2 e z
def Den.int_inv{v:V}{i:Int}(h:Den K H v (.int i)):v=.int i:=by simpa only [Den]using h
def Den.bool_inv(h:Den K H v (.bool b)):v=.bl b:=by simpa only [Den]using h
def Den.none_inv(h:Den K H v .none):v=.non:=by simpa only [Den]using h
def Den.str_inv(h:Den K H v (.str x)):v=.str x:=by simpa only [Den]using h
def DenAll.cons_inv{xs:List V}{d:br}{ds:List br}(h:DenAll K H xs (d::ds)):∃v r,xs=v::r/\Den K H v d/\DenAll K H r ds:=by simpa only [DenAll]using h
def DenAll.nil_inv{xs:List V}(h:DenAll K H xs []):xs=[]:=by simpa only [DenAll]using h
theorem DenAll.length:∀{ds:List br} {xs:List V},DenAll K H xs ds->xs.length=ds.length
 |[],_,h=>by rw[h.nil_inv];rfl
 |d::ds,_,h=>by
  obtain⟨v,r,rfl,_,h⟩:=h.cons_inv;rw[aY,aY,DenAll.length h]
theorem DenAll.get:∀{ds:List br} {xs:List V} {i:Nat} {d:br},DenAll K H xs ds->ds[i]?=cz d->∃v,xs[i]?=cz v/\Den K H v d
 |[],_,i,d,_,e=>by simp at e
 |d0::ds,_,0,d,h,e=>by
  obtain⟨v,r,rfl,h1,_⟩:=h.cons_inv;have:d0=d:=by simpa using e
  subst this;exact⟨v,rfl,h1⟩
 |d0::ds,_,i+1,d,h,e=>by
  obtain⟨v,r,rfl,_,h1⟩:=h.cons_inv;obtain⟨u,h2,h3⟩:=DenAll.get (i:=i) h1 (by simpa using e);exact⟨u,by simpa using h2,h3⟩
def DenAll.getV{ds:List br}{xs:List V}{i:Nat}{v:V}(h:DenAll K H xs ds)(e:xs[i]?=cz v):∃d,ds[i]?=cz d/\Den K H v d:=by
 have hi:=(aO.mp e).1;rw[h.length]at hi;obtain⟨u,h1,h2⟩:=h.get (ag hi);rw[e]at h1;cases h1
 exact⟨_,ag hi,h2⟩
theorem DenAll.append:∀{ds:List br} {xs:List V} {es:List br} {ys:List V},DenAll K H xs ds->DenAll K H ys es->DenAll K H (xs++ys) (ds++es)
 |[],_,_,_,h,q=>by rw[h.nil_inv];exact q
 |d::ds,_,_,_,h,q=>by
  obtain⟨v,r,rfl,h1,h2⟩:=h.cons_inv;exact denAll_cons h1 (DenAll.append h2 q)
theorem DenAll.take:∀{ds:List br} {xs:List V} (n:Nat),DenAll K H xs ds->DenAll K H (xs.take n) (ds.take n)
 |_,_,0,_=>by rw[List.take_zero,List.take_zero];exact denAll_nil
 |[],_,n+1,h=>by rw[h.nil_inv];exact denAll_nil
 |d::ds,_,n+1,h=>by
  obtain⟨v,r,rfl,h1,h2⟩:=h.cons_inv;exact denAll_cons h1 (DenAll.take n h2)
theorem DenAll.drop:∀{ds:List br} {xs:List V} (n:Nat),DenAll K H xs ds->DenAll K H (xs.drop n) (ds.drop n)
 |_,_,0,h=>h
 |[],_,n+1,h=>by rw[h.nil_inv];exact denAll_nil
 |d::ds,_,n+1,h=>by
  obtain⟨v,r,rfl,_,h2⟩:=h.cons_inv;exact DenAll.drop n h2
theorem DenAll.ints:∀(ns:List Int),DenAll K H (ns.map V.int) (ns.map aR)
 |[]=>denAll_nil
 |n::ns=>denAll_cons den_int (DenAll.ints ns)
end
def cut(H:Hp)(F:List aw):Hp:=λa=>if a∈F then xn else H a
section
variable {H H':Hp}{F F':List aw}{a:aw}{o:HO}
def a0d(h:a∉F):cut H F a=H a:=by unfold cut;rw[aM h]
def X1(h:a∈F):cut H F a=xn:=by unfold cut;rw[aE h]
def m8(h:cut H F a=cz o):a∉F/\H a=cz o:=by
 by_cases q:a∈F
 ·rw[X1 q]at h;cases h
 ·rw[a0d q]at h;exact⟨q,h⟩
def j7(h1:a∉F)(h2:H a=cz o):cut H F a=cz o:=by rw[a0d h1];exact h2
def k7:Same (cut H F) H:=λ_ _ h=>(m8 h).2
def R7(e:Same H H')(hF:∀a o,H a=cz o->a∈F'->a∈F):Same (cut H F) (cut H' F'):=λa o h=>by
 obtain⟨h1,h2⟩:=m8 h;exact j7 (λq=>h1 (hF a o h2 q)) (e _ _ h2)
def O1(e:Same H H'):Same (cut H F) (cut H' F):=R7 e λ_ _ _ q=>q
def F6(hF:∀a,a∈F'->a∈F):Same (cut H F) (cut H F'):=R7 (Same.refl H) λa _ _ q=>hF a q
def K3:cut H []=H:=by
 funext a
 exact a0d (by simp)
end
inductive Ty where
 |i|f|l (t:Ty)|tp (ts:List Ty)|d (kt:Bool) (t:Ty)
mutual
def Ty.shut:Ty->Bool
 |.i=>yn
 |.f=>yH
 |.l u=>u.shut
 |.tp us=>Ty.shutAll us
 |.d _ u=>u.shut
def Ty.shutAll:List Ty->Bool
 |[]=>yn
 |u::us=>u.shut&&Ty.shutAll us
end
def ListAll(R:V->br->List aw->Prop):List V->List br->List aw->Prop
 |xs,[],fp=>xs=[]/\fp=[]
 |xs,d::ds,fp=>∃v r f g,xs=v::r/\fp=f++g/\R v d f/\ListAll R r ds g
mutual
def Own(K:ae)(H:Hp)(F:List aw):Ty->V->br->List aw->Prop
 |.i,v,d,fp=>fp=[]/\imm d=yn/\Den K (cut H F) v d
 |.f,v,d,fp=>fp=[]/\Den K (cut H F) v d
 |.l u,v,d,fp=>(fp=[]/\imm d=yn/\Den K (cut H F) v d)\/∃a xs ds fs,v=.ref a/\H a=cz (.lst xs)/\d=.list ds/\fp=a::fs/\ListAll (Own K H F u) xs ds fs
 |.tp us,v,d,fp=>(fp=[]/\(imm d=yn/\∀ds,d≠.tuple ds)/\Den K (cut H F) v d)\/∃a xs ds,v=.ref a/\H a=cz (.tup xs)/\a∉F/\d=.tuple ds/\OwnTs K H F us xs ds fp
 |.d kt u,v,d,fp=>∃a es ds fs,v=.ref a/\H a=cz (i9 a es)/\d=.dict ((es.map (·.1)).zip ds)/\fp=a::fs/\((es.map (·.1)).Nodup/\∀e∈es,keyOk kt e.1/\Den K (cut H F) e.2.1 e.1)/\ListAll (Own K H F u) (es.map (·.2.2)) ds fs
def OwnTs(K:ae)(H:Hp)(F:List aw):List Ty->List V->List br->List aw->Prop
 |[],xs,ds,fp=>xs=[]/\ds=[]/\fp=[]
 |u::us,xs,ds,fp=>∃v r d e f g,xs=v::r/\ds=d::e/\fp=f++g/\Own K H F u v d f/\OwnTs K H F us r e g
end
section
variable {R R':V->br->List aw->Prop}
def p7:ListAll R [] [] []:=by simp only[ListAll];exact⟨trivial,trivial⟩
def m9(h:R v d f)(q:ListAll R xs ds g):ListAll R (v::xs) (d::ds) (f++g):=by
 simp only[ListAll];exact⟨v,xs,f,g,rfl,rfl,h,q⟩
def ListAll.nil_inv(h:ListAll R xs [] fp):xs=[]/\fp=[]:=by simpa only [ListAll]using h
def ListAll.cons_inv(h:ListAll R xs (d::ds) fp):∃v r f g,xs=v::r/\fp=f++g/\R v d f/\ListAll R r ds g:=by simpa only [ListAll]using h
theorem ListAll.length:∀{ds:List br} {xs:List V} {fp:List aw},ListAll R xs ds fp->xs.length=ds.length
 |[],_,_,h=>by rw[h.nil_inv.1];rfl
 |d::ds,_,_,h=>by
  obtain⟨v,r,f,g,rfl,_,_,h⟩:=h.cons_inv;rw[aY,aY,ListAll.length h]
theorem ListAll.imp:∀{ds:List br} {xs:List V} {fp:List aw},ListAll R xs ds fp->(∀v d f,(∀a∈f,a∈fp)->d∈ds->R v d f->R' v d f)->ListAll R' xs ds fp
 |[],_,_,h,_=>by obtain⟨rfl,rfl⟩:=h.nil_inv;exact p7
 |d::ds,_,_,h,q=>by
  obtain⟨v,r,f,g,rfl,rfl,h1,h2⟩:=h.cons_inv;exact m9 (q v d f (λa ha=>ao _ ha) aN h1) (ListAll.imp h2 λv d f' hf hd hR=>q v d f' (λa ha=>ai _ (hf a ha)) (ax _ hd) hR)
theorem ListAll.append:∀{ds es:List br} {xs ys:List V} {fp gp:List aw},ListAll R xs ds fp->ListAll R ys es gp->ListAll R (xs++ys) (ds++es) (fp++gp)
 |[],_,_,_,_,_,h,q=>by obtain⟨rfl,rfl⟩:=h.nil_inv;exact q
 |d::ds,_,_,_,_,_,h,q=>by
  obtain⟨v,r,f,g,rfl,rfl,h1,h2⟩:=h.cons_inv;rw[aV];exact m9 h1 (ListAll.append h2 q)
theorem ListAll.at_:∀{ds:List br} {xs:List V} {fp:List aw} {k:Nat} {d:br},ListAll R xs ds fp->ds[k]?=cz d->
  ∃v f pre post,xs[k]?=cz v/\R v d f/\fp=pre++(f++post)/\ListAll R (xs.take k) (ds.take k) pre/\ListAll R (xs.drop (k+1)) (ds.drop (k+1)) post
 |[],_,_,k,d,_,e=>by simp at e
 |d0::ds,_,_,0,d,h,e=>by
  obtain⟨v,r,f,g,rfl,rfl,h1,h2⟩:=h.cons_inv;have:d0=d:=by simpa using e
  subst this;exact⟨v,f,[],g,rfl,h1,rfl,p7,h2⟩
 |d0::ds,_,_,k+1,d,h,e=>by
  obtain⟨v,r,f,g,rfl,rfl,h1,h2⟩:=h.cons_inv;obtain⟨u,f',pre,post,e1,e2,e3,e4,e5⟩:=ListAll.at_ (k:=k) h2 (by simpa using e);subst e3;exact⟨u,f',f++pre,post,by simpa using e1,e2,by rw[aV],m9 h1 e4,e5⟩
end
section
variable {K:ae}{H H':Hp}{F F':List aw}
theorem ListAll.den(hR:∀v d f,R v d f->Den K H v d):∀{ds:List br} {xs:List V} {fp:List aw},ListAll R xs ds fp->DenAll K H xs ds
 |[],_,_,h=>by rw[h.nil_inv.1];exact denAll_nil
 |d::ds,_,_,h=>by
  obtain⟨v,r,f,g,rfl,_,h1,h2⟩:=h.cons_inv;exact denAll_cons (hR _ _ _ h1) (ListAll.den hR h2)
mutual
theorem Own.den:∀(u:Ty) {v:V} {d:br} {fp:List aw},Own K H F u v d fp->Den K H v d
 |.i,_,_,_,h=>by simp only[Own]at h;exact h.2.2.up k7
 |.f,_,_,_,h=>by simp only[Own]at h;exact h.2.up k7
 |.l u,_,_,_,h=>by
  simp only[Own]at h;rcases h with⟨_,_,h⟩|⟨a,xs,ds,fs,rfl,h1,rfl,_,h2⟩
  ·exact h.up k7
  ·exact den_list (.inl (.inl h1)) (ListAll.den (λv d f q=>Own.den u q) h2)
 |.tp us,_,_,_,h=>by
  simp only[Own]at h;rcases h with⟨_,_,h⟩|⟨a,xs,ds,rfl,h1,_,rfl,h2⟩
  ·exact h.up k7
  ·exact den_tup (SqT.of h1) (OwnTs.den us h2)
 |.d kt u,_,_,_,h=>by
  simp only[Own]at h;obtain⟨a,es,ds,fs,rfl,h1,rfl,_,h3,h2⟩:=h;exact a5h h1 (λe he=>(h3.2 e he).2.up k7) (ListAll.den (λv d f q=>Own.den u q) h2)
theorem OwnTs.den:∀(us:List Ty) {xs:List V} {ds:List br} {fp:List aw},OwnTs K H F us xs ds fp->DenAll K H xs ds
 |[],_,_,_,h=>by simp only[OwnTs]at h;obtain⟨rfl,rfl,_⟩:=h;exact denAll_nil
 |u::us,_,_,_,h=>by
  simp only[OwnTs]at h;obtain⟨v,r,d,e,f,g,rfl,rfl,_,h1,h2⟩:=h;exact denAll_cons (Own.den u h1) (OwnTs.den us h2)
end
mutual
theorem Own.frame(e:Same (cut H F) (cut H' F')):∀(u:Ty) {v:V} {d:br} {fp:List aw},Own K H F u v d fp->(∀a∈fp,H' a=H a)->Own K H' F' u v d fp
 |.i,_,_,_,h,_=>by simp only[Own]at h ⊢;exact⟨h.1,h.2.1,h.2.2.up e⟩
 |.f,_,_,_,h,_=>by simp only[Own]at h ⊢;exact⟨h.1,h.2.up e⟩
 |.l u,_,_,_,h,k=>by
  simp only[Own]at h ⊢;rcases h with⟨h1,h2,h⟩|⟨a,xs,ds,fs,rfl,h1,rfl,rfl,h2⟩
  ·exact .inl ⟨h1,h2,h.up e⟩
  ·exact .inr ⟨a,xs,ds,fs,rfl,(k a aN).trans h1,rfl,rfl,h2.imp λv d f hf _ q=>Own.frame e u q λb hb=>k b (ax _ (hf b hb))⟩
 |.tp us,_,_,_,h,k=>by
  simp only[Own]at h ⊢;rcases h with⟨h1,h2,h⟩|⟨a,xs,ds,rfl,h1,h0,rfl,h2⟩
  ·exact .inl ⟨h1,h2,h.up e⟩
  obtain⟨h3,h4⟩:=m8 (e a _ (j7 h0 h1));exact .inr ⟨a,xs,ds,rfl,h4,h3,rfl,OwnTs.frame e us h2 k⟩
 |.d kt u,_,_,_,h,k=>by
  simp only[Own]at h ⊢;obtain⟨a,es,ds,fs,rfl,h1,rfl,rfl,h3,h2⟩:=h;exact⟨a,es,ds,fs,rfl,(k a aN).trans h1,rfl,rfl,⟨h3.1,λx hx=>⟨(h3.2 x hx).1,(h3.2 x hx).2.up e⟩⟩,h2.imp λv d f hf _ q=>Own.frame e u q λb hb=>k b (ax _ (hf b hb))⟩
theorem OwnTs.frame(e:Same (cut H F) (cut H' F')):∀(us:List Ty) {xs:List V} {ds:List br} {fp:List aw},OwnTs K H F us xs ds fp->(∀a∈fp,H' a=H a)->OwnTs K H' F' us xs ds fp
 |[],_,_,_,h,_=>by simpa only [OwnTs]using h
 |u::us,_,_,_,h,k=>by
  simp only[OwnTs]at h ⊢;obtain⟨v,r,d,e',f,g,rfl,rfl,rfl,h1,h2⟩:=h;exact⟨v,r,d,e',f,g,rfl,rfl,rfl,Own.frame e u h1 λa ha=>k a (ao _ ha),OwnTs.frame e us h2 λa ha=>k a (ai _ ha)⟩
end
theorem ListAll.lst{u:Ty}{R:V->br->List aw->Prop}(hR:∀v d f,R v d f->∀a∈f,∃ys:MuO,H a=cz ys.1):∀{ds:List br} {xs:List V} {fp:List aw},ListAll R xs ds fp->∀a∈fp,∃ys:MuO,H a=cz ys.1
 |[],_,_,h,a,ha=>by rw[h.nil_inv.2]at ha;cases ha
 |d::ds,_,_,h,a,ha=>by
  obtain⟨v,r,f,g,rfl,rfl,h1,h2⟩:=h.cons_inv;rcases av.mp ha with z|z
  ·exact hR _ _ _ h1 a z
  ·exact ListAll.lst (u:=u) hR h2 a z
mutual
theorem Own.lst:∀(u:Ty) {v:V} {d:br} {fp:List aw},Own K H F u v d fp->∀a∈fp,∃ys:MuO,H a=cz ys.1
 |.i,_,_,_,h,a,ha=>by simp only[Own]at h;rw[h.1]at ha;cases ha
 |.f,_,_,_,h,a,ha=>by simp only[Own]at h;rw[h.1]at ha;cases ha
 |.l u,_,_,_,h,b,hb=>by
  simp only[Own]at h;rcases h with⟨h1,_⟩|⟨a,xs,ds,fs,rfl,h1,rfl,rfl,h2⟩
  ·rw[h1]at hb;cases hb
  ·rcases aG.mp hb with z|z
   ·subst z;exact⟨⟨.lst xs,trivial⟩,h1⟩
   ·exact ListAll.lst (u:=u) (λv d f q=>Own.lst u q) h2 b z
 |.tp us,_,_,_,h,b,hb=>by
  simp only[Own]at h;rcases h with⟨h1,_⟩|⟨a,xs,ds,rfl,h1,_,rfl,h2⟩
  ·rw[h1]at hb;cases hb
  ·exact OwnTs.lst us h2 b hb
 |.d kt u,_,_,_,h,b,hb=>by
  simp only[Own]at h;obtain⟨a,es,ds,fs,rfl,h1,rfl,rfl,h3,h2⟩:=h;rcases aG.mp hb with z|z
  ·subst z;exact⟨⟨i9 b es,trivial⟩,h1⟩
  ·exact ListAll.lst (u:=u) (λv d f q=>Own.lst u q) h2 b z
theorem OwnTs.lst:∀(us:List Ty) {xs:List V} {ds:List br} {fp:List aw},OwnTs K H F us xs ds fp->∀a∈fp,∃ys:MuO,H a=cz ys.1
 |[],_,_,_,h,a,ha=>by simp only[OwnTs]at h;rw[h.2.2]at ha;cases ha
 |u::us,_,_,_,h,b,hb=>by
  simp only[OwnTs]at h;obtain⟨v,r,d,e,f,g,rfl,rfl,rfl,h1,h2⟩:=h;rcases av.mp hb with z|z
  ·exact Own.lst u h1 b z
  ·exact OwnTs.lst us h2 b z
end
def b6v(h:SqT K H a xs)(hF:∀a∈F,∃ys:MuO,H a=cz ys.1):SqT K (cut H F) a xs:=by
 rcases h with (h|⟨o,h⟩)|h
 ·refine .inl (.inl (j7 (λq=>?_) h));obtain⟨⟨ys,my⟩,e⟩:=hF a q;rw[h]at e;have e':=aK e;rw[show ys=_ from e'.symm]at my;exact my
 ·refine .inl (.inr ⟨o,j7 (λq=>?_) h⟩);obtain⟨⟨ys,my⟩,e⟩:=hF a q;rw[h]at e;have e':=aK e;rw[show ys=_ from e'.symm]at my;exact my
 ·exact .inr h
mutual
theorem Den.imm_out(hF:∀a∈F,∃ys:MuO,H a=cz ys.1):∀(d:br) {v:V},imm d=yn->Den K H v d->Den K (cut H F) v d
 |.none,_,_,h=>by simpa only [Den]using h
 |.bool _,_,_,h=>by simpa only [Den]using h
 |.int _,_,_,h=>by simpa only [Den]using h
 |.str _,_,_,h=>by simpa only [Den]using h
 |.list ds,_,q,_=>by simp only[imm]at q;cases q
 |.tuple ds,_,q,h=>by
  simp only[imm]at q;obtain⟨a,xs,rfl,h1,h2⟩:=h.tup_inv;exact den_tup (b6v h1 hF) (DenAll.imm_out hF ds q h2)
 |.dict _,_,q,_=>by simp only[imm]at q;cases q
theorem DenAll.imm_out(hF:∀a∈F,∃ys:MuO,H a=cz ys.1):∀(ds:List br) {xs:List V},g6 ds=yn->DenAll K H xs ds->DenAll K (cut H F) xs ds
 |[],_,_,h=>by simpa only [DenAll]using h
 |d::ds,_,q,h=>by
  simp only[g6,aD]at q;obtain⟨v,r,rfl,h1,h2⟩:=h.cons_inv;exact denAll_cons (Den.imm_out hF d q.1 h1) (DenAll.imm_out hF ds q.2 h2)
end
mutual
theorem Own.shut_out(hF:∀a∈F',∃ys:MuO,H a=cz ys.1):∀(u:Ty) {v:V} {d:br} {fp:List aw},u.shut=yn->Own K H F u v d fp->Own K H F' u v d fp
 |.i,_,_,_,_,h=>by simp only[Own]at h ⊢;exact⟨h.1,h.2.1,(h.2.2.up k7).imm_out hF _ h.2.1⟩
 |.f,_,_,_,q,h=>by simp only[Ty.shut]at q;cases q
 |.l u,_,_,_,q,h=>by
  simp only[Ty.shut]at q;simp only[Own]at h ⊢;rcases h with⟨h1,h2,h⟩|⟨a,xs,ds,fs,rfl,h1,rfl,rfl,h2⟩
  ·exact .inl ⟨h1,h2,(h.up k7).imm_out hF _ h2⟩
  ·exact .inr ⟨a,xs,ds,fs,rfl,h1,rfl,rfl,h2.imp λv d f _ _ z=>Own.shut_out hF u q z⟩
 |.tp us,_,_,_,q,h=>by
  simp only[Ty.shut]at q;simp only[Own]at h ⊢;rcases h with⟨h1,h2,h⟩|⟨a,xs,ds,rfl,h1,h0,rfl,h2⟩
  ·exact .inl ⟨h1,h2,(h.up k7).imm_out hF _ h2.1⟩
  refine .inr ⟨a,xs,ds,rfl,h1,λz=>?_,rfl,OwnTs.shut_out hF us q h2⟩;obtain⟨⟨ys,my⟩,e⟩:=hF a z;rw[h1]at e;have e':=aK e;rw[show ys=_ from e'.symm]at my;exact my
 |.d kt u,_,_,_,q,h=>by
  simp only[Ty.shut]at q;simp only[Own]at h ⊢;obtain⟨a,es,ds,fs,rfl,h1,rfl,rfl,h3,h2⟩:=h;exact⟨a,es,ds,fs,rfl,h1,rfl,rfl,⟨h3.1,λx hx=>⟨(h3.2 x hx).1,((h3.2 x hx).2.up k7).imm_out hF _ (X0 _ (h3.2 x hx).1.1)⟩⟩,h2.imp λv d f _ _ z=>Own.shut_out hF u q z⟩
theorem OwnTs.shut_out(hF:∀a∈F',∃ys:MuO,H a=cz ys.1):∀(us:List Ty) {xs:List V} {ds:List br} {fp:List aw},Ty.shutAll us=yn->OwnTs K H F us xs ds fp->OwnTs K H F' us xs ds fp
 |[],_,_,_,_,h=>by simpa only [OwnTs]using h
 |u::us,_,_,_,q,h=>by
  simp only[Ty.shutAll,aD]at q;simp only[OwnTs]at h ⊢;obtain⟨v,r,d,e,f,g,rfl,rfl,rfl,h1,h2⟩:=h;exact⟨v,r,d,e,f,g,rfl,rfl,rfl,Own.shut_out hF u q.1 h1,OwnTs.shut_out hF us q.2 h2⟩
end
end
end VS
namespace VS
open PySem.Spec L2
open SeqAt in
def items_eqAt{A:bP}{s:au}{us ws:Array ak}(ra:jc s.heap us.toList xs as)(rb:jc s.heap ws.toList ys bs)(ha:bh xs=yn)(hb:bh ys=yn)
  (hu:A.in1.units+min (cX xs) (cX ys)<dY):∀(k:Nat) (k1:k<us.size) (k2:k<ws.size),EqAt A.in1 s us[k] ws[k] (pairEq xs ys k):=λk k1 k2=>
 eqAt_readsAll xs ys A.in1 s us.toList ws.toList as bs ra rb ha hb hu k k1 k2
open SeqAt in
def a8v{A:bP}{s:au}(ra:Reads s.heap a da as)(rb:Reads s.heap b db bs)(ha:da.canLay0=yn)(hb:db.canLay0=yn)
  (hu:A.units+min da.depth db.depth<dY):RcNeAt A s a b (!aI da db):=by
 have u0:=room_here hu;cases ra with
 |dict=>exact nomatch ha
 |none=>cases rb with
  |dict=>exact nomatch hb
  |none=>exact RcNeAt.none_none
  |bool y=>exact RcNeAt.none_bool y
  |int y v=>exact RcNeAt.none_int y v
  |str y v=>exact RcNeAt.none_str y v
  |list c1 c2 c3 c4=>exact RcNeAt.none_list ⟨_,c1,c2,_,c3⟩ u0
  |tuple c1 c2 c3 c4=>exact RcNeAt.none_tuple ⟨_,c1,c2,_,c3⟩ u0
 |bool x=>cases rb with
  |dict=>exact nomatch hb
  |none=>exact RcNeAt.bool_none x
  |bool y=>exact RcNeAt.bool_bool x y
  |int y v=>exact RcNeAt.bool_int x y v
  |str y v=>exact RcNeAt.bool_str x y v
  |list c1 c2 c3 c4=>exact RcNeAt.bool_list x ⟨_,c1,c2,_,c3⟩ u0
  |tuple c1 c2 c3 c4=>exact RcNeAt.bool_tuple x ⟨_,c1,c2,_,c3⟩ u0
 |int x t=>cases rb with
  |dict=>exact nomatch hb
  |none=>exact RcNeAt.int_none x t
  |bool y=>exact RcNeAt.int_bool x t y
  |int y v=>exact RcNeAt.int_int x t y v
  |str y v=>exact RcNeAt.int_str x t y v
  |list c1 c2 c3 c4=>exact RcNeAt.int_list x t ⟨_,c1,c2,_,c3⟩ u0
  |tuple c1 c2 c3 c4=>exact RcNeAt.int_tuple x t ⟨_,c1,c2,_,c3⟩ u0
 |str x t=>cases rb with
  |dict=>exact nomatch hb
  |none=>exact RcNeAt.str_none x t
  |bool y=>exact RcNeAt.str_bool x t y
  |int y v=>exact RcNeAt.str_int x t y v
  |str y v=>exact RcNeAt.str_str x t y v
  |list c1 c2 c3 c4=>exact RcNeAt.str_list x t ⟨_,c1,c2,_,c3⟩ u0
  |tuple c1 c2 c3 c4=>exact RcNeAt.str_tuple x t ⟨_,c1,c2,_,c3⟩ u0
 |@list la oa us na xs fa c1 c2 c3 c4=>
  have sa:s.heap.IsList la us:=⟨oa,c1,c2,na,c3⟩;cases rb with
  |dict=>exact nomatch hb
  |none=>exact RcNeAt.list_none sa u0
  |bool y=>exact RcNeAt.list_bool y sa u0
  |int y v=>exact RcNeAt.list_int y v sa u0
  |str y v=>exact RcNeAt.list_str y v sa u0
  |tuple e1 e2 e3 e4=>exact RcNeAt.list_tuple sa ⟨_,e1,e2,_,e3⟩ u0
  |@list lb ob ws nb ys fb e1 e2 e3 e4=>
   have sb:s.heap.IsList lb ws:=⟨ob,e1,e2,nb,e3⟩;have z1:us.size=xs.length:=by simpa using pM xs _ _ c4
   have z2:ws.size=ys.length:=by simpa using pM ys _ _ e4
   have pr:=items_eqAt c4 e4 ha hb (room_in hu);show RcNeAt A s (.ref la) (.ref lb) (!bT xs ys);by_cases z:us.size=ws.size
   ·rw[<-eqvAll_same_length (show xs.length=ys.length by lia),<-z1];exact RcNeAt.lists sa sb z u0 pr
   ·rw[eqvAll_other_length (show xs.length≠ys.length by lia)];exact RcNeAt.lists_lengths sa sb (bne_iff_ne.mpr z) u0
 |@tuple la oa us na xs fa c1 c2 c3 c4=>
  have sa:s.heap.IsTuple la us:=⟨oa,c1,c2,na,c3⟩;cases rb with
  |dict=>exact nomatch hb
  |none=>exact RcNeAt.tuple_none sa u0
  |bool y=>exact RcNeAt.tuple_bool y sa u0
  |int y v=>exact RcNeAt.tuple_int y v sa u0
  |str y v=>exact RcNeAt.tuple_str y v sa u0
  |list e1 e2 e3 e4=>exact RcNeAt.tuple_list sa ⟨_,e1,e2,_,e3⟩ u0
  |@tuple lb ob ws nb ys fb e1 e2 e3 e4=>
   have sb:s.heap.IsTuple lb ws:=⟨ob,e1,e2,nb,e3⟩;have z1:us.size=xs.length:=by simpa using pM xs _ _ c4
   have z2:ws.size=ys.length:=by simpa using pM ys _ _ e4
   have pr:=items_eqAt c4 e4 ha hb (room_in hu);show RcNeAt A s (.ref la) (.ref lb) (!bT xs ys);rw[<-eqvAll_eq xs ys,<-z1,<-z2];exact RcNeAt.tuples sa sb u0 pr
mutual
theorem Den.reads{X:Cx}{pins:List (aw×fV)}{U:St}{H:Hp}{s:au}(I:Inv X pins U H s):∀(d:br) {v:V} {u:ak},d.canLay0=yn->Den X.K H v d->RelV v u->∃as,Reads s.heap u d as
 |.none,v,u,_,q,r=>by
  cases q.none_inv
  cases (show u=bx from r)
  exact⟨_,.none⟩
 |.bool b,v,u,_,q,r=>by
  cases q.bool_inv
  cases (show u=mJ b from r)
  exact⟨_,.bool b⟩
 |.int i,v,u,_,q,r=>by
  cases q.int_inv
  obtain⟨t,rfl⟩:=r;exact⟨_,.int i t⟩
 |.str x,v,u,_,q,r=>by
  cases q.str_inv
  obtain⟨t,rfl⟩:=r;exact⟨_,.str x t⟩
 |.list ds,v,u,hl,q,r=>by
  obtain⟨a,xs,rfl,h1,h2⟩:=q.list_inv;cases (show u=bL a from r)
  obtain⟨z,its,n,rv,e⟩:=h1.ok I;obtain⟨as,ra⟩:=DenAll.reads I ds hl h2 rv;exact⟨_,.list e rfl rfl (by simpa using ra)⟩
 |.tuple ds,v,u,hl,q,r=>by
  obtain⟨a,xs,rfl,h1,h2⟩:=q.tup_inv;cases (show u=bL a from r)
  obtain⟨its,rv,⟨o,e,c,n,d⟩,_⟩:=I.tuple h1;obtain⟨as,ra⟩:=DenAll.reads I ds hl h2 rv;exact⟨_,.tuple e c d (by simpa using ra)⟩
 |.dict _,_,_,hl,_,_=>nomatch hl
theorem DenAll.reads{X:Cx}{pins:List (aw×fV)}{U:St}{H:Hp}{s:au}(I:Inv X pins U H s):∀(ds:List br) {xs:List V} {us:List ak},bh ds=yn->DenAll X.K H xs ds->Vals xs us->∃as,jc s.heap us ds as
 |[],xs,us,_,q,r=>by
  cases q.nil_inv
  cases r
  exact⟨_,.nil⟩
 |d::ds,xs,us,hl,q,r=>by
  have sL:d.canLay0=yn/\bh ds=yn:=by simpa[bh]using hl
  obtain⟨v,rs,rfl,h1,h2⟩:=q.cons_inv;cases r with
  |cons r1 r2=>
   obtain⟨as,ra⟩:=Den.reads I d sL.1 h1 r1;obtain⟨bs,rb⟩:=DenAll.reads I ds sL.2 h2 r2;exact⟨_,.cons ra rb⟩
end
def OpS(X:Cx)(f:ak->ak->AD ak)(g:D->D->Option D):Prop:=
 ∃r,OpR X f r/\∀(x y:V) (H:Hp) (a b d:D) (Q:VK),Den X.K H x a->Den X.K H y b->g a b=cz d->(∀v,imm d=yn->(∀H',Den X.K H' v d)->Q v H)->r x y H Q
def a3i(X:Cx)(f:ak)(g:List D->Option D):Prop:=
 ∃r,CallR X f r/\∀(xs:List V) (H:Hp) (ds:List D) (d:D) (Q:VK),DenAll X.K H xs ds->g ds=cz d->(∀v,imm d=yn->(∀H',Den X.K H' v d)->Q v H)->r xs H Q
def d2I(p:Int->Int->Bool)(g:Int->Int->D):D->D->Option D
 |.int a,.int b=>if p a b then cz (g a b) else xn
 |_,_=>xn
def a3j(h:d2I p g a b=cz d):∃i j,a=.int i/\b=.int j/\p i j=yn/\d=g i j:=by
 cases a with
 |int i=>
  cases b with
  |int j=>
   have h':(if p i j=yn then cz (g i j) else xn)=cz d:=h;by_cases c:p i j=yn
   ·rw[aE c]at h';exact⟨i,j,rfl,rfl,c,(aK h').symm⟩
   ·rw[aM c]at h';cases h'
  |_=>cases h
 |_=>cases h
def pT:Int->Int->Bool:=λ_ _=>yn
abbrev D7:D->D->Option D:=d2I pT λa b=>.int (a+b)
abbrev a1y:D->D->Option D:=d2I pT λa b=>.int (a-b)
def b1o(a b:Int):Bool:=decide (a.natAbs<2^64)||decide (b.natAbs<2^64)
abbrev Q0:D->D->Option D:=d2I b1o λa b=>.int (a*b)
def b9m(_ b:Int):Bool:=decide (0<b)
abbrev G8:D->D->Option D:=d2I b9m λa b=>.int (a % b)
def b6w(_ b:Int):Bool:=decide (0<b)&&decide (b<1073741824)
abbrev a8w:D->D->Option D:=d2I b6w λa b=>.int (a / b)
def b1p(a b:Int):Bool:=decide (0<=b)&&decide (b<=1000000)&&decide (a.natAbs<2^64)
abbrev a6Y:D->D->Option D:=d2I b1p λa b=>.int (a^b.toNat)
abbrev dLt:D->D->Option D:=d2I pT λa b=>.bool (decide (a<b))
abbrev dLe:D->D->Option D:=d2I pT λa b=>.bool (decide (a<=b))
abbrev dGt:D->D->Option D:=d2I pT λa b=>.bool (decide (b<a))
abbrev dGe:D->D->Option D:=d2I pT λa b=>.bool (decide (b<=a))
def b3k(neg:Bool)(a b:D):Option D:=if a.canLay0&&b.canLay0&&decide (a.depth<=450) then cz (.bool (neg !=aI a b)) else xn
abbrev dEq:D->D->Option D:=b3k yH
abbrev dNe:D->D->Option D:=b3k yn
def isN:D->Bool
 |.none=>yn
 |_=>yH
def a8x(neg:Bool)(a b:D):Option D:=if isN b then cz (.bool (neg !=isN a)) else xn
def c3m(neg:Bool):D->D->Option D
 |.bool a,.bool b=>cz (.bool (neg !=(a==b)))
 |_,_=>xn
section
variable {X:Cx}
def b6x{f:ak->ak->AD ak}{C:Int->Int->Prop}{p:Int->Int->Bool}{g:Int->Int->Int}(ho:OpR X f (rI C λi j=>.int (g i j)))(hp:∀i j,p i j=yn->C i j):OpS X f (d2I p λa b=>.int (g a b)):=by
 refine⟨_,ho,λx y H a b d Q ha hb hg q=>?_⟩;obtain⟨i,j,rfl,rfl,c,rfl⟩:=a3j hg;exact⟨i,j,ha.int_inv,hb.int_inv,hp i j c,q _ (by simp only[imm]) λ_=>den_int⟩
def b8q{f:ak->ak->AD ak}{g:Int->Int->Int}(ho:OpR X f (rI0 λi j=>.int (g i j))):OpS X f (d2I pT λa b=>.int (g a b)):=by
 refine⟨_,ho,λx y H a b d Q ha hb hg q=>?_⟩;obtain⟨i,j,rfl,rfl,c,rfl⟩:=a3j hg;exact⟨i,j,ha.int_inv,hb.int_inv,q _ (by simp only[imm]) λ_=>den_int⟩
def b3l{f:ak->ak->AD ak}{g:Int->Int->Bool}(ho:OpR X f (rI0 λi j=>.bl (g i j))):OpS X f (d2I pT λa b=>.bool (g a b)):=by
 refine⟨_,ho,λx y H a b d Q ha hb hg q=>?_⟩;obtain⟨i,j,rfl,rfl,c,rfl⟩:=a3j hg;exact⟨i,j,ha.int_inv,hb.int_inv,q _ (by simp only[imm]) λ_=>den_bool⟩
def s9:OpS X (gc .Add) D7:=b8q b8Z
def Q1:OpS X (gc .Sub) a1y:=b8q b9a
def F7:OpS X (gc .Mult) Q0:=b6x b9b λi j h=>by
 unfold b1o at h;rw[lG]at h;rcases h with h|h
 ·have:=bB h;exact .inl ⟨by lia,by lia⟩
 ·have:=bB h;exact .inr ⟨by lia,by lia⟩
def u8:OpS X (gc .Mod) G8:=b6x b9c λi j h=>bB h
def a8y:OpS X (gc .FloorDiv) a8w:=b6x b6g λi j h=>by
 unfold b6w at h;rw[aD]at h;exact⟨bB h.1,bB h.2⟩
def a1z:OpS X (gc .Pow) a6Y:=b6x b9d λi j h=>by
 unfold b1p at h;rw[aD,aD]at h;exact⟨bB h.1.1,bB h.1.2,bB h.2⟩
def a9U:OpS X (cH .Lt) dLt:=b3l c1r
def a3k:OpS X (cH .LtE) dLe:=b3l c1s
def a5i:OpS X (cH .Gt) dGt:=b3l c1t
def b9n(K:ae)(neg:Bool):R2:=λx y H Q=>∃d e,Den K H x d/\Den K H y e/\d.canLay0=yn/\e.canLay0=yn/\d.depth<=450/\Q (.bl (neg !=aI d e)) H
def b3m(hu:X.A.units+464<dY):OpR X (cH .Eq) (b9n X.K yH):=by
 intro pins s U H x y v u Q I rx ry h;obtain⟨d,e,h1,h2,c1,c2,hd,q⟩:=h;obtain⟨as,ra⟩:=Den.reads I d c1 h1 rx;obtain⟨bs,rb⟩:=Den.reads I e c2 h2 ry;refine SeqAt.compareEq_reads ra rb c1 c2 (by have:=lA d.depth e.depth;lia) ?_;exact⟨.bl _,H,I,rfl,by simpa using q⟩
def b3n(hu:X.A.units+464<dY):OpR X (cH .NotEq) (b9n X.K yn):=by
 intro pins s U H x y v u Q I rx ry h;obtain⟨d,e,h1,h2,c1,c2,hd,q⟩:=h;obtain⟨as,ra⟩:=Den.reads I d c1 h1 rx;obtain⟨bs,rb⟩:=Den.reads I e c2 h2 ry;refine a8v ra rb c1 c2 (by have:=lA d.depth e.depth;lia) _ _ _ _ ?_;exact⟨.bl _,H,I,rfl,by simpa using q⟩
def b3o(ho:OpR X f (b9n X.K neg)):OpS X f (b3k neg):=by
 refine⟨_,ho,λx y H a b d Q ha hb hg q=>?_⟩;unfold b3k at hg;by_cases c:(a.canLay0&&b.canLay0&&decide (a.depth<=450))=yn
 ·rw[aE c]at hg;cases hg
  rw[aD,aD]at c;exact⟨a,b,ha,hb,c.1.1,c.1.2,bB c.2,q _ (by simp only[imm]) λ_=>den_bool⟩
 ·rw[aM c]at hg;cases hg
def os_eq(hu:X.A.units+464<dY):OpS X (cH .Eq) dEq:=b3o (b3m hu)
def c1y(hu:X.A.units+464<dY):OpS X (cH .NotEq) dNe:=b3o (b3n hu)
def b3p(h:Den K H x a):decide (x=V.non)=isN a:=by
 cases a with
 |none=>rw[h.none_inv];rfl
 |bool b=>rw[h.bool_inv];rfl
 |int b=>rw[h.int_inv];rfl
 |str b=>rw[h.str_inv];rfl
 |list ds=>obtain⟨a,xs,rfl,_⟩:=h.list_inv;rfl
 |tuple ds=>obtain⟨a,xs,rfl,_⟩:=h.tup_inv;rfl
 |dict kvs=>
  obtain⟨a,es,rfl,_⟩:=h.dict_inv;rfl
def b6y:OpS X (cH .IsNot) (a8x yn):=by
 refine⟨_,b6h,λx y H a b d Q ha hb hg q=>?_⟩;unfold a8x at hg;by_cases c:isN b=yn
 ·rw[aE c]at hg;cases hg
  have e:=b3p hb;rw[c]at e;refine⟨bB e,?_⟩;rw[b3p ha];have:=q (.bl (yn !=isN a)) (by simp only[imm]) λ_=>den_bool
  simpa using this
 ·rw[aM c]at hg;cases hg
end
inductive Md where
 |dead|own (u:Ty)|exc|keys (kt:Bool)|pin (v:V)|fn (Φ:Hp->V->Prop)
def ExcAt(a C:aw):HO:=.ext λh=>∃o,h.get? a=cz o/\o.cls=.ref C
def SlotR(K:ae)(H:Hp)(F:List aw)(m:Md)(o:Option V)(d:D)(f:List aw):Prop:=
 match m with
 |.dead=>f=[]
 |.own u=>∃v,o=cz v/\Own K H F u v d f
 |.exc=>f=[]/\∃v,o=cz v/\((v=.non/\d=.none)\/∃a C n,v=.ref a/\d=.str n/\cut H F a=cz (ExcAt a C)/\b_ K bp n=cz (cz (.ref C)))
 |.keys kt=>f=[]/\∃a es kvs,o=cz (.ref a)/\d=.dict kvs/\cut H F a=cz (i9 a es)/\es.map (·.1)=kvs.map (·.1)/\∀e∈es,keyOk kt e.1/\Den K (cut H F) e.2.1 e.1
 |.pin v=>f=[]/\o=cz v
 |.fn Φ=>f=[]/\∃v,o=cz v/\∀H',Same (cut H F) H'->Φ H' v
def StAll(K:ae)(H:Hp)(F:List aw):List Md->List D->L2.St->List aw->Prop
 |[],Z,U,fp=>Z=[]/\U=[]/\fp=[]
 |m::M,Z,U,fp=>∃d Z' o U' f g,Z=d::Z'/\U=o::U'/\fp=f++g/\SlotR K H F m o d f/\StAll K H F M Z' U' g
section
variable {K:ae}{H H':Hp}{F F':List aw}
theorem SlotR.frame(h:SlotR K H F m o d f)(e:Same (cut H F) (cut H' F'))(k:∀a∈f,H' a=H a):SlotR K H' F' m o d f:=by
 cases m with
 |dead=>exact h
 |own u=>
  obtain⟨v,rfl,h⟩:=h;exact⟨v,rfl,h.frame e u k⟩
 |exc=>
  obtain⟨h0,v,h1,h2⟩:=h;refine⟨h0,v,h1,h2.imp (λz=>z) λ⟨a,C,n,z1,z2,z3,z4⟩=>⟨a,C,n,z1,z2,e _ _ z3,z4⟩⟩
 |keys kt=>
  obtain⟨h0,a,es,kvs,h1,h2,h3,h4,h5⟩:=h;exact⟨h0,a,es,kvs,h1,h2,e _ _ h3,h4,λx hx=>⟨(h5 x hx).1,(h5 x hx).2.up e⟩⟩
 |pin v=>exact h
 |fn Φ=>obtain⟨h0,v,h1,h2⟩:=h;exact⟨h0,v,h1,λH2 e2=>h2 H2 (e.trans e2)⟩
def k6{Z:List D}(h:SlotR K H F m o d f)(q:StAll K H F M Z U g):StAll K H F (m::M) (d::Z) (o::U) (f++g):=by
 simp only[StAll];exact⟨d,Z,o,U,f,g,rfl,rfl,rfl,h,q⟩
def R8:StAll K H F [] [] [] []:=by simp only[StAll];exact⟨trivial,trivial,trivial⟩
theorem StAll.frame:∀{M:List Md} {Z:List D} {U:L2.St} {fp:List aw},StAll K H F M Z U fp->Same (cut H F) (cut H' F')->(∀a∈fp,H' a=H a)->StAll K H' F' M Z U fp
 |[],_,_,_,h,_,_=>by simpa only [StAll]using h
 |m::M,_,_,_,h,e,k=>by
  simp only[StAll]at h;obtain⟨d,Z,o,U,f,g,rfl,rfl,rfl,h1,h2⟩:=h;exact k6 (h1.frame e λa ha=>k a (ao _ ha)) (StAll.frame h2 e λa ha=>k a (ai _ ha))
theorem StAll.len:∀{M:List Md} {Z:List D} {U:L2.St} {fp:List aw},StAll K H F M Z U fp->Z.length=M.length/\U.length=M.length
 |[],_,_,_,h=>by simp only[StAll]at h;obtain⟨rfl,rfl,_⟩:=h;exact⟨rfl,rfl⟩
 |m::M,_,_,_,h=>by
  simp only[StAll]at h;obtain⟨d,Z,o,U,f,g,rfl,rfl,rfl,_,h2⟩:=h;obtain⟨a,b⟩:=StAll.len h2;exact⟨by rw[aY,aY,a],by rw[aY,aY,b]⟩
theorem StAll.at_:∀{M:List Md} {Z:List D} {U:L2.St} {fp:List aw} {i:Nat} {m:Md},StAll K H F M Z U fp->M[i]?=cz m->
  ∃d o f pre post,Z[i]?=cz d/\U[i]?=cz o/\SlotR K H F m o d f/\fp=pre++(f++post)/\
   ∀(H':Hp) (F':List aw) (m':Md) (d':D) (o':Option V) (f':List aw),(∀a∈pre++post,H' a=H a)->Same (cut H F) (cut H' F')->SlotR K H' F' m' o' d' f'->
    StAll K H' F' (M.set i m') (Z.set i d') (U.set i o') (pre++(f'++post))
 |[],_,_,_,i,m,_,e=>by simp at e
 |m0::M,_,_,_,0,m,h,e=>by
  simp only[StAll]at h;obtain⟨d,Z,o,U,f,g,rfl,rfl,rfl,h1,h2⟩:=h;have:m0=m:=by simpa using e
  subst this;refine⟨d,o,f,[],g,rfl,rfl,h1,rfl,λH' F' m' d' o' f' k e' s=>?_⟩;show StAll K H' F' (m'::M) (d'::Z) (o'::U) (f'++g);exact k6 s (h2.frame e' k)
 |m0::M,_,_,_,i+1,m,h,e=>by
  simp only[StAll]at h;obtain⟨d,Z,o,U,f,g,rfl,rfl,rfl,h1,h2⟩:=h;obtain⟨d1,o1,f1,pre,post,e1,e2,e3,e4,e5⟩:=StAll.at_ (i:=i) h2 (by simpa using e);subst e4;refine⟨d1,o1,f1,f++pre,post,by simpa using e1,by simpa using e2,e3,by rw[aV],λH' F' m' d' o' f' k e' s=>?_⟩;rw[aV];refine k6 (h1.frame e' λa ha=>k a ?_) (e5 H' F' m' d' o' f' (λa ha=>k a ?_) e' s)
  ·rw[aV];exact ao _ ha
  ·rw[aV];exact ai _ ha
end
structure StE (K:ae) (M:List Md) (Z:List D) (U:L2.St) (H P:Hp) (F:List aw):Prop where
 all:∃G,StAll K H F M Z U G/\∀a∈G,a∈F
 lst:∀a∈F,∃ys:MuO,H a=cz ys.1
 prot:Same P (cut H F)
structure StR (K:ae) (M:List Md) (Z:List D) (U:L2.St) (H P:Hp) (F:List aw):Prop where
 all:∃G,StAll K H F M Z U G/\G.Nodup/\∀a∈G,a∈F
 lst:∀a∈F,∃ys:MuO,H a=cz ys.1
 prot:Same P (cut H F)
section
variable {K:ae}{M:List Md}{Z:List D}{U:L2.St}{H H' P:Hp}{F:List aw}
def StR.toE(h:StR K M Z U H P F):StE K M Z U H P F:=⟨let⟨G,a,_,b⟩:=h.all;⟨G,a,b⟩,h.lst,h.prot⟩
def StE.keep(h:StE K M Z U H P F)(e:Same H H'):∀a∈F,H' a=H a:=λa ha=>by
 obtain⟨ys,q⟩:=h.lst a ha;rw[q,e _ _ q]
def StE.lst'(h:StE K M Z U H P F)(e:Same H H'):∀a∈F,∃ys:MuO,H' a=cz ys.1:=λa ha=>by
 obtain⟨ys,q⟩:=h.lst a ha;exact⟨ys,e _ _ q⟩
def a1b(e:Same H H')(hf:∀a∈fp,H a=xn):Same (cut H F) (cut H' (fp++F)):=R7 e λa o ha ma=>by
 rcases av.mp ma with z|z
 ·rw[hf a z]at ha;cases ha
 ·exact z
def StE.more(h:StE K M Z U H P F)(e:Same H H')(hf:∀a∈fp,H a=xn)(hl:∀a∈fp,∃ys:MuO,H' a=cz ys.1):StE K M Z U H' P (fp++F):=by
 obtain⟨G,h1,h3⟩:=h.all;have hc:Same (cut H F) (cut H' (fp++F)):=a1b e hf;refine⟨⟨G,h1.frame hc λa ha=>h.keep e a (h3 a ha),λa ha=>ai _ (h3 a ha)⟩,λa ha=>?_,h.prot.trans hc⟩;rcases av.mp ha with z|z
 ·exact hl a z
 ·exact h.lst' e a z
def StE.grow(h:StE K M Z U H P F)(e:Same H H'):StE K M Z U H' P F:=h.more (fp:=[]) e (λa ha=>(nomatch ha)) λa ha=>(nomatch ha)
theorem StR.more(h:StR K M Z U H P F)(e:Same H H')(hf:∀a∈fp,H a=xn)(hl:∀a∈fp,∃ys:MuO,H' a=cz ys.1):StR K M Z U H' P (fp++F):=by
 obtain⟨G,h1,h2,h3⟩:=h.all;have S:=h.toE.more e hf hl;exact⟨⟨G,h1.frame (a1b e hf) λa ha=>h.toE.keep e a (h3 a ha),h2,λa ha=>ai _ (h3 a ha)⟩,S.lst,S.prot⟩
def StR.grow(h:StR K M Z U H P F)(e:Same H H'):StR K M Z U H' P F:=h.more (fp:=[]) e (λa ha=>(nomatch ha)) λa ha=>(nomatch ha)
def B7(h:Z[i]?=cz d):Z.getD i x=d:=by rw[ah,h];rfl
def StE.get(h:StE K M Z U H P F)(hm:M[i]?=cz (.own u)):∃v f,U[i]?=cz (cz v)/\Own K H F u v (Z.getD i .none) f/\∀a∈f,a∈F:=by
 obtain⟨G,h1,h3⟩:=h.all;obtain⟨d,o,f,pre,post,e1,e2,⟨v,rfl,q⟩,e4,_⟩:=h1.at_ hm;refine⟨v,f,e2,by rw[B7 e1];exact q,λa ha=>h3 a ?_⟩;rw[e4];exact ai _ (ao _ ha)
theorem StAll.pick(h:StAll K H F M Z U G)(hG:∀a∈G,a∈F):∀js:List Nat,∃G',StAll K H F (js.map λj=>M.getD j .dead) (js.map λj=>Z.getD j .none) (js.map λj=>(U[j]?).getD xn) G'/\∀a∈G',a∈F
 |[]=>⟨[],R8,λa ha=>(nomatch ha)⟩
 |j::js=>by
  obtain⟨G',q,hq⟩:=StAll.pick h hG js;cases e:M[j]? with
  |none=>
   refine⟨[]++G',?_,λa ha=>hq a (by simpa using ha)⟩;have:M.getD j .dead=.dead:=by rw[ah,e];rfl
   rw[ay,ay,ay,this];exact k6 rfl q
  |some m=>
   obtain⟨d,o,f,pre,post,e1,e2,e3,e4,_⟩:=h.at_ e;refine⟨f++G',?_,λa ha=>?_⟩
   ·rw[ay,ay,ay,show M.getD j .dead=m by rw[ah,e];rfl,B7 e1,e2];exact k6 e3 q
   ·rcases av.mp ha with z|z
    ·exact hG a (by rw[e4];exact ai _ (ao _ z))
    ·exact hq a z
def N7{pre f post:List aw}(h:(pre++(f++post)).Nodup):(pre++post).Nodup:=
 h.sublist (yp (iC _) (ro _ _))
def mem_mid{pre f post:List aw}{a:aw}(h:a∈pre++post):a∈pre++(f++post):=by
 rcases av.mp h with h|h
 ·exact ao _ h
 ·exact ai _ (ai _ h)
def a1A{pre f post:List aw}(h:(pre++post).Nodup)(hf:f.Nodup)(d:∀a∈f,a∉pre++post):(pre++(f++post)).Nodup:=by
 rw[bR]at h ⊢;obtain⟨h1,h2,h3⟩:=h;refine⟨h1,?_,λa ha b hb=>?_⟩
 ·rw[bR];exact⟨hf,h2,λa ha b hb e=>d a ha (e▸ai _ hb)⟩
 ·rcases av.mp hb with z|z
  ·intro e;exact d b z (e▸ao _ ha)
  ·exact h3 a ha b z
def a5X{pre f post:List aw}{a:aw}(h:a∈pre++(f++post)):a∈f\/a∈pre++post:=by
 rcases av.mp h with h|h
 ·exact .inr (ao _ h)
 ·rcases av.mp h with h|h
  ·exact .inl h
  ·exact .inr (ai _ h)
def a1B{pre f post:List aw}(h:(pre++(f++post)).Nodup):∀a∈f,a∉pre++post:=λa ha z=>by
 rw[bR,bR]at h;rcases av.mp z with z|z
 ·exact h.2.2 a z a (ao _ ha) rfl
 ·exact h.2.1.2.2 a ha a z rfl
theorem StR.set{H1:Hp}{i:Nat}{m:Md}{u:Ty}{v:V}{d:D}{fp:List aw}(h:StR K M Z U H P F)(hm:M[i]?=cz m)(e:Same H H1)(hv:Own K H1 (fp++F) u v d fp)(hn:fp.Nodup)(hf:∀a∈fp,H a=xn) :
  StR K (M.set i (.own u)) (Z.set i d) (U.set i (cz v)) H1 P (fp++F):=by
 obtain⟨G,h1,h2,h3⟩:=h.all;have S:=h.more e hf (hv.lst u);obtain⟨d0,o,f,pre,post,e1,e2,e3,e4,e5⟩:=h1.at_ hm;have pW:=h2;rw[e4]at pW;have hG:∀a∈pre++post,a∈F:=λa ha=>h3 a (by rw[e4];exact mem_mid ha)
 have hc:Same (cut H F) (cut H1 (fp++F)):=R7 e λa o ha ma=>by
  rcases av.mp ma with z|z
  ·rw[hf a z]at ha;cases ha
  ·exact z
 refine⟨⟨pre++(fp++post),e5 H1 _ (.own u) d (cz v) fp (λa ha=>h.toE.keep e a (hG a ha)) hc ⟨v,rfl,hv⟩,a1A (N7 pW) hn λa ha z=>?_,λa ha=>?_⟩,S.lst,S.prot⟩
 ·obtain⟨ys,q⟩:=h.lst a (hG a z);rw[hf a ha]at q;cases q
 ·rcases a5X ha with z|z
  ·exact ao _ z
  ·exact ai _ (hG a z)
def StR.kill{i:Nat}{m:Md}(h:StR K M Z U H P F)(hm:M[i]?=cz m)(d:D)(o:Option V):StR K (M.set i .dead) (Z.set i d) (U.set i o) H P F:=by
 obtain⟨G,h1,h2,h3⟩:=h.all;obtain⟨d0,o0,f,pre,post,e1,e2,e3,e4,e5⟩:=h1.at_ hm;rw[e4]at h2;exact⟨⟨pre++([]++post),e5 H F .dead d o [] (λ_ _=>rfl) (Same.refl _) rfl,N7 h2,λa ha=>h3 a (by rw[e4];exact mem_mid ha)⟩,h.lst,h.prot⟩
def set_same{α:Type}{l:List α}{i:Nat}{x:α}(h:l[i]?=cz x):l.set i x=l:=kj λj=>by
 rw[List.getElem?_set]
 split
 ·next hj=>
  subst hj
  split
  ·exact h.symm
  ·next hh=>exact (lN (by lia)).symm
 ·rfl
theorem StR.dead{i:Nat}{m:Md}(h:StR K M Z U H P F)(hm:M[i]?=cz m):StR K (M.set i .dead) Z U H P F:=by
 obtain⟨G,h1,_⟩:=h.all;obtain⟨d0,o0,f,pre,post,e1,e2,_⟩:=h1.at_ hm;have:=h.kill hm d0 o0
 rwa[set_same e1,set_same e2]at this
def Own.freeze(h:Own K H F u v d fp)(hs:∀a∈F',a∈F)(hd:∀a∈fp,a∉F'):Own K H F' .f v d []:=by
 have key:∀(u:Ty) {v:V} {d:D} {fp:List aw},Own K H F u v d fp->(∀a∈fp,a∉F')->Den K (cut H F') v d:=by
  intro u;refine Ty.rec (motive_1:=λu=>∀{v:V} {d:D} {fp:List aw},Own K H F u v d fp->(∀a∈fp,a∉F')->Den K (cut H F') v d)
   (motive_2:=λus=>∀{xs:List V} {ds:List D} {fp:List aw},OwnTs K H F us xs ds fp->(∀a∈fp,a∉F')->DenAll K (cut H F') xs ds) ?_ ?_ ?_ ?_ ?_ ?_ ?_ u
  ·intro v d fp h _;simp only[Own]at h;exact h.2.2.up (F6 hs)
  ·intro v d fp h _;simp only[Own]at h;exact h.2.up (F6 hs)
  ·intro u ih v d fp h hd;simp only[Own]at h;rcases h with⟨_,_,h⟩|⟨a,xs,ds,fs,rfl,h1,rfl,rfl,h2⟩
   ·exact h.up (F6 hs)
   ·refine den_list (.inl (.inl (j7 (hd a aN) h1))) (ListAll.den (R:=λv d f=>Own K H F u v d f/\∀a∈f,a∉F') (λv d f q=>ih q.1 q.2) (h2.imp λv d f hf _ q=>⟨q,λb hb=>hd b (ax _ (hf b hb))⟩))
  ·intro us ih v d fp h hd;simp only[Own]at h;rcases h with⟨_,_,h⟩|⟨a,xs,ds,rfl,h1,h0,rfl,h2⟩
   ·exact h.up (F6 hs)
   exact den_tup (SqT.of (j7 (λz=>h0 (hs a z)) h1)) (ih h2 hd)
  ·intro kt u ih v d fp h hd;simp only[Own]at h;obtain⟨a,es,ds,fs,rfl,h1,rfl,rfl,h3,h2⟩:=h;exact a5h (j7 (hd a aN) h1) (λe he=>(h3.2 e he).2.up (F6 hs)) (ListAll.den (R:=λv d f=>Own K H F u v d f/\∀a∈f,a∉F') (λv d f q=>ih q.1 q.2) (h2.imp λv d f hf _ q=>⟨q,λb hb=>hd b (ax _ (hf b hb))⟩))
  ·intro xs ds fp h _;simp only[OwnTs]at h;obtain⟨rfl,rfl,_⟩:=h;exact denAll_nil
  ·intro u us yR yQ xs ds fp h hd;simp only[OwnTs]at h;obtain⟨v,r,d,e,f,g,rfl,rfl,rfl,h1,h2⟩:=h;exact denAll_cons (yR h1 λa ha=>hd a (ao _ ha)) (yQ h2 λa ha=>hd a (ai _ ha))
 simp only[Own];exact⟨trivial,key u h hd⟩
theorem StR.freeze{i:Nat}{u:Ty}(h:StR K M Z U H P F)(hm:M[i]?=cz (.own u)):∃F',StR K (M.set i (.own .f)) Z U H P F':=by
 obtain⟨G,h1,h2,h3⟩:=h.all;obtain⟨d,o,f,pre,post,e1,e2,⟨v,rfl,e3⟩,e4,e5⟩:=h1.at_ hm;rw[e4]at h2;have mD:∀a∈F.filter (λa=>decide (a∉f)),a∈F:=λa ha=>(jr.mp ha).1
 have zm:∀a∈f,a∉F.filter (λa=>decide (a∉f)):=λa ha z=>absurd ha (bB (jr.mp z).2)
 have hc:Same (cut H F) (cut H (F.filter (λa=>decide (a∉f)))):=F6 mD;have q:=e5 H _ (.own .f) d (cz v) [] (λ_ _=>rfl) hc ⟨v,rfl,e3.freeze mD zm⟩;rw[set_same e1,set_same e2]at q;refine⟨_,⟨_,q,N7 h2,λa ha=>jr.mpr ⟨h3 a (by rw[e4];exact mem_mid ha),aL λz=>a1B h2 a z ha⟩⟩,λa ha=>h.lst a (mD a ha),h.prot.trans hc⟩
end
inductive Cat where
 |new (u:Ty)|bor (u:Ty)|tmp
def ResR(K:ae)(c:Cat)(H H':Hp)(F:List aw)(v:V)(d:D):Prop:=
 match c with
 |.new u=>∃fp,Own K H' (fp++F) u v d fp/\fp.Nodup/\∀a∈fp,H a=xn
 |.bor u=>∃fp,Own K H' F u v d fp/\∀a∈fp,a∈F
 |.tmp=>Den K H' v d
section
variable {K:ae}{c:Cat}{H H0 H' H1 H2:Hp}{F:List aw}{v:V}{d:D}
theorem ResR.den(r:ResR K c H H' F v d):Den K H' v d:=by
 cases c with
 |new u=>obtain⟨fp,h,_⟩:=r;exact h.den u
 |bor u=>obtain⟨fp,h,_⟩:=r;exact h.den u
 |tmp=>exact r
def Own.grow(h:Own K H1 F u v d fp)(e:Same H1 H2):Own K H2 F u v d fp:=
 h.frame (O1 e) u λa ha=>by obtain⟨ys,q⟩:=h.lst u a ha;rw[q,e _ _ q]
theorem ResR.up(r:ResR K c H H1 F v d)(e:Same H1 H2):ResR K c H H2 F v d:=by
 cases c with
 |new u=>obtain⟨fp,h,q⟩:=r;exact⟨fp,h.grow e,q⟩
 |bor u=>obtain⟨fp,h,q⟩:=r;exact⟨fp,h.grow e,q⟩
 |tmp=>exact Den.up r e
def ResR.early(r:ResR K c H H1 F v d)(e:Same H0 H):ResR K c H0 H1 F v d:=by
 cases c with
 |new u=>obtain⟨fp,h,n,q⟩:=r;exact⟨fp,h,n,λa ha=>e.free (q a ha)⟩
 |bor u=>exact r
 |tmp=>exact r
def I9(hi:imm d=yn)(hd:Den K H' v d)(hF:∀a∈F,∃ys:MuO,H' a=cz ys.1):ResR K (.new .i) H H' F v d:=by
 refine⟨[],?_,bH,λa ha=>(nomatch ha)⟩;simp only[Own,bM];exact⟨trivial,hi,hd.imm_out hF d hi⟩
def a2l(h:Own K H F .i v d fp):fp=[]/\imm d=yn/\Den K (cut H F) v d:=by simpa only [Own]using h
def a9V(h:Own K H F .f v d fp):fp=[]/\Den K (cut H F) v d:=by simpa only [Own]using h
end
abbrev EvE:=List D->Option D
abbrev EvT:=List D->Option Bool
def spE(K:ae)(M:List Md)(f:EvE)(c:Cat):TE:=λU H Q=>∃(Z:List D) (P:Hp) (F:List aw) (d:D),StE K M Z U H P F/\f Z=cz d/\∀v H',Same H H'->ResR K c H H' F v d->Q v H'
def PX(X:Cx)(M:List Md)(e:Expr)(f:EvE)(c:Cat):Prop:=PE X e (spE X.K M f c)
def PX.out{X:Cx}{M:List Md}{e:Expr}{f:EvE}{c:Cat}(h:PX X M e f c) :
  ∃t,PE X e t/\∀(Z:List D) (U:L2.St) (H P:Hp) (F:List aw) (d:D) (Q:VK),StE X.K M Z U H P F->f Z=cz d->(∀v H',Same H H'->ResR X.K c H H' F v d->Q v H')->t U H Q:=
 ⟨_,h,λZ _ _ P F d _ S hf q=>⟨Z,P,F,d,S,hf,q⟩⟩
def PX.mk{X:Cx}{M:List Md}{e:Expr}{f:EvE}{c:Cat}
  (h:∃t,PE X e t/\∀(Z:List D) (U:L2.St) (H P:Hp) (F:List aw) (d:D) (Q:VK),StE X.K M Z U H P F->f Z=cz d->(∀v H',Same H H'->ResR X.K c H H' F v d->Q v H')->t U H Q):PX X M e f c:=by
 obtain⟨t,p,q⟩:=h;exact λpins s U H Q I ⟨Z,P,F,d,S,hf,z⟩=>p pins s U H Q I (q Z U H P F d Q S hf z)
def spT(K:ae)(M:List Md)(g:EvT):TT:=λU H Q=>∃(Z:List D) (P:Hp) (F:List aw) (b:Bool),StE K M Z U H P F/\g Z=cz b/\∀H',Same H H'->Q b H'
def PTX(X:Cx)(M:List Md)(e:Expr)(g:EvT):Prop:=PT X e (spT X.K M g)
def PTX.out{X:Cx}{M:List Md}{e:Expr}{g:EvT}(h:PTX X M e g) :
  ∃t,PT X e t/\∀(Z:List D) (U:L2.St) (H P:Hp) (F:List aw) (b:Bool) (Q:Bool->Hp->Prop),StE X.K M Z U H P F->g Z=cz b->(∀H',Same H H'->Q b H')->t U H Q:=
 ⟨_,h,λZ _ _ P F b _ S hf q=>⟨Z,P,F,b,S,hf,q⟩⟩
def PTX.mk{X:Cx}{M:List Md}{e:Expr}{g:EvT}
  (h:∃t,PT X e t/\∀(Z:List D) (U:L2.St) (H P:Hp) (F:List aw) (b:Bool) (Q:Bool->Hp->Prop),StE X.K M Z U H P F->g Z=cz b->(∀H',Same H H'->Q b H')->t U H Q):PTX X M e g:=by
 obtain⟨t,p,q⟩:=h;exact λpins s U H Q I ⟨Z,P,F,d,S,hf,z⟩=>p pins s U H Q I (q Z U H P F d Q S hf z)
def PWX(X:Cx)(M:List Md)(e:Expr)(g:EvT):Prop:=PW X e (spT X.K M g)
def PWX.out{X:Cx}{M:List Md}{e:Expr}{g:EvT}(h:PWX X M e g) :
  ∃t,PW X e t/\∀(Z:List D) (U:L2.St) (H P:Hp) (F:List aw) (b:Bool) (Q:Bool->Hp->Prop),StE X.K M Z U H P F->g Z=cz b->(∀H',Same H H'->Q b H')->t U H Q:=
 ⟨_,h,λZ _ _ P F b _ S hf q=>⟨Z,P,F,b,S,hf,q⟩⟩
def PWX.mk{X:Cx}{M:List Md}{e:Expr}{g:EvT}
  (h:∃t,PW X e t/\∀(Z:List D) (U:L2.St) (H P:Hp) (F:List aw) (b:Bool) (Q:Bool->Hp->Prop),StE X.K M Z U H P F->g Z=cz b->(∀H',Same H H'->Q b H')->t U H Q):PWX X M e g:=by
 obtain⟨t,p,q⟩:=h;exact λwhole pins s U H Q I ⟨Z,P,F,d,S,hf,z⟩=>p whole pins s U H Q I (q Z U H P F d Q S hf z)
abbrev EvA:=List D->Option (List D)
def PAX(X:Cx)(M:List Md)(es:List Expr)(f:EvA):Prop:=
 ∃t,PA X es t/\∀(Z:List D) (U:L2.St) (H P:Hp) (F:List aw) (ds:List D) (Q:List V->Hp->Prop),StE X.K M Z U H P F->f Z=cz ds->(∀vs H',Same H H'->DenAll X.K H' vs ds->Q vs H')->t U H Q
def PAN(X:Cx)(M:List Md)(es:List Expr)(f:EvA)(us:List Ty):Prop:=
 ∃t,PA X es t/\∀(Z:List D) (U:L2.St) (H P:Hp) (F:List aw) (ds:List D) (Q:List V->Hp->Prop),StE X.K M Z U H P F->f Z=cz ds->
  (∀vs H' fp,Same H H'->OwnTs X.K H' (fp++F) us vs ds fp->fp.Nodup->(∀a∈fp,H a=xn)->Q vs H')->t U H Q
noncomputable def a6(i:Nat):EvE:=λZ=>cz (Z.getD i .none)
noncomputable def eC(d:D):EvE:=λ_=>cz d
def e1(g:D->Option D)(a:EvE):EvE:=λZ=>(a Z).bind g
def e2(g:D->D->Option D)(a b:EvE):EvE:=λZ=>(a Z).bind λx=>(b Z).bind λy=>g x y
def asB:D->Option Bool
 |.bool b=>cz b
 |_=>xn
def a6Z(a b:EvE):EvE:=λZ=>(a Z).bind λx=>(asB x).bind λk=>if k then b Z else cz (.bool yH)
def eOr(a b:EvE):EvE:=λZ=>(a Z).bind λx=>(asB x).bind λk=>if k then cz (.bool yn) else b Z
def b6z(a:EvE):EvE:=λZ=>(a Z).bind λx=>(asB x).bind λk=>cz (.bool !k)
def eIf(c:EvT)(a b:EvE):EvE:=λZ=>(c Z).bind λk=>if k then a Z else b Z
def eCh(g g':D->D->Option D)(a b c:EvE):EvE:=λZ=>(a Z).bind λx=>(b Z).bind λy=>(g x y).bind λz=>(asB z).bind λk=>if k then (c Z).bind λw=>g' y w else cz (.bool yH)
def tr:D->Option Bool
 |.none=>cz yH
 |.bool b=>cz b
 |.int i=>cz (i !=0)
 |.str x=>if x.length<=bg then cz ((x.length:Int)!=0) else xn
 |.list ds=>cz !ds.isEmpty
 |.tuple ds=>cz !ds.isEmpty
 |.dict _=>xn
def tV(a:EvE):EvT:=λZ=>(a Z).bind tr
def tB(a:EvE):EvT:=λZ=>(a Z).bind asB
def tNo(a:EvT):EvT:=λZ=>(a Z).bind λk=>cz !k
def tAn(a b:EvT):EvT:=λZ=>(a Z).bind λk=>if k then b Z else cz yH
def a1C(a b:EvT):EvT:=λZ=>(a Z).bind λk=>if k then cz yn else b Z
def b9:List D->Option (List D):=λ_=>cz []
def a7(a:EvE)(r:List D->Option (List D)):List D->Option (List D):=λZ=>(a Z).bind λx=>(r Z).bind λxs=>cz (x::xs)
def O2(h:asB d=cz k):d=.bool k:=by
 cases d with
 |bool b=>cases h;rfl
 |_=>cases h
def bnd{α β:Type}{o:Option α}{f:α->Option β}{b:β}(h:o.bind f=cz b):∃a,o=cz a/\f a=cz b:=Option.bind_eq_some_iff.mp h
section
variable {X:Cx}{M:List Md}{a b e e':Expr}{es rest:List Expr}{f g fa fb fc:EvE}{ga gb:EvT}{c ca cb cc:Cat}{u:Ty}{us:List Ty}{pos:fS}
def PX.imp(h:PX X M e f c)(k:∀(K:ae) (H H':Hp) (F:List aw) (v:V) (d:D),(∀a∈F,∃ys:MuO,H a=cz ys.1)->Same H H'->ResR K c H H' F v d->ResR K c' H H' F v d):PX X M e f c':=by
 obtain⟨t,p,q⟩:=h.out;exact .mk ⟨t,p,λZ U H P F d Q S hf z=>q Z U H P F d Q S hf λv H' e r=>z v H' e (k _ _ _ _ _ _ S.lst e r)⟩
def PX.newf(h:PX X M e f (.bor .f)):PX X M e f (.new .f):=h.imp λK H H' F v d _ _ ⟨fp,o,_⟩=>by
 obtain⟨rfl,_⟩:=a9V o;exact⟨[],o,bH,λa ha=>(nomatch ha)⟩
def PX.newi(h:PX X M e f (.bor .i)):PX X M e f (.new .i):=h.imp λK H H' F v d _ _ ⟨fp,o,_⟩=>by
 obtain⟨rfl,_⟩:=a2l o;exact⟨[],o,bH,λa ha=>(nomatch ha)⟩
def PX.itol(h:PX X M e f (.new .i)):PX X M e f (.new (.l u)):=h.imp λK H H' F v d _ _ ⟨fp,o,n,z⟩=>by
 obtain⟨rfl,w,q⟩:=a2l o;refine⟨[],?_,n,z⟩;simp only[Own];exact .inl ⟨trivial,w,q⟩
def PX.frz(h:PX X M e f (.new u)):PX X M e f (.new .f):=h.imp λK H H' F v d hF _ ⟨fp,o,n,z⟩=>by
 refine⟨[],o.freeze (λa ha=>ai _ (by simpa using ha)) (λa ha ve=>?_),bH,λa ha=>(nomatch ha)⟩;obtain⟨ys,q⟩:=hF a (by simpa using ve);rw[z a ha]at q;cases q
def w8(i:Nat)(hN:X.N[i]?=cz x:=by rfl)(hv:autoParam (NmV X x) ZY._auto_1)(hm:M[i]?=cz (.own u):=by rfl):PX X M (.Name x pos) (a6 i) (.bor u):=by
 refine .mk ⟨_,A5 hN hv.1 hv.2.1 hv.2.2,λZ U H P F d Q S hf q=>?_⟩;cases hf
 obtain⟨v,fp,e,o,sub⟩:=S.get hm;exact⟨v,e,q v H (Same.refl _) ⟨fp,o,sub⟩⟩
def X2(h:PE X e (tC v))(hi:imm d=yn)(hd:∀H,Den X.K H v d):PX X M e (eC d) (.new .i):=by
 refine .mk ⟨_,h,λZ U H P F d' Q S hf q=>?_⟩;cases hf
 exact q v H (Same.refl _) (I9 hi (hd H) S.lst)
def b8{i j}:PX X M (.Constant (.int i) j pos) (eC (.int i)) (.new .i):=X2 a8j (by simp only[imm]) λ_=>den_int
def V5{k j}:PX X M (.Constant (.bool k) j pos) (eC (.bool k)) (.new .i):=X2 c1h (by simp only[imm]) λ_=>den_bool
def a8z{j}:PX X M (.Constant .none j pos) (eC .none) (.new .i):=X2 b8I (by simp only[imm]) λ_=>den_none
def b9o{x j}:PX X M (.Constant (.str x) j pos) (eC (.str x)) (.new .i):=X2 b2S (by simp only[imm]) λ_=>den_str
def a1c(hm:∃t,X.mg x=cz (.int i t))(hg:Gl X x:=by rfl)(hd:(x==("__debug__":bA))=yH:=by decide):PX X M (.Name x pos) (eC (.int i)) (.new .i):=by
 obtain⟨t,hm⟩:=hm;exact X2 (a5P (v:=.int i) hg hm ⟨_,rfl⟩ hd) (by simp only[imm]) λ_=>den_int
def F8{g:D->D->Option D}{Z:List D}{d:D}(h:e2 g fa fb Z=cz d):∃x y,fa Z=cz x/\fb Z=cz y/\g x y=cz d:=by
 obtain⟨x,h1,h⟩:=bnd h;obtain⟨y,h2,h⟩:=bnd h;exact⟨x,y,h1,h2,h⟩
def i8{g:D->D->Option D}(ho:OpS X (gc op) g)(ha:PX X M a fa ca)(hb:PX X M b fb cb):PX X M (.BinOp a op b pos) (e2 g fa fb) (.new .i):=by
 obtain⟨r,hr,hs⟩:=ho;obtain⟨ta,pa,qa⟩:=ha.out;obtain⟨tb,pb,qb⟩:=hb.out;refine .mk ⟨_,b8n hr pa pb,λZ U H P F d Q S hf q=>?_⟩;obtain⟨x,y,h1,h2,h3⟩:=F8 hf;exact qa Z U H P F x _ S h1 λv H1 e1 r1=>qb Z U H1 P F y _ (S.grow e1) h2 λw H2 e2 r2=>hs v w H2 x y d Q (r1.den.up e2) r2.den h3 λz hi hd=>q z H2 (e1.trans e2) (I9 hi (hd H2) (S.lst' (e1.trans e2)))
def a1D{g:D->D->Option D}(ho:OpS X (cH op) g)(ha:PX X M a fa ca)(hb:PX X M b fb cb)(hm:iy op b=yH:=by first|exact a8n _|with_unfolding_all rfl):PX X M (.Compare a [op] [b] pos) (e2 g fa fb) (.new .i):=by
 obtain⟨r,hr,hs⟩:=ho;obtain⟨ta,pa,qa⟩:=ha.out;obtain⟨tb,pb,qb⟩:=hb.out;refine .mk ⟨_,b6i hr pa pb hm,λZ U H P F d Q S hf q=>?_⟩;obtain⟨x,y,h1,h2,h3⟩:=F8 hf;exact qa Z U H P F x _ S h1 λv H1 e1 r1=>qb Z U H1 P F y _ (S.grow e1) h2 λw H2 e2 r2=>hs v w H2 x y d Q (r1.den.up e2) r2.den h3 λz hi hd=>q z H2 (e1.trans e2) (I9 hi (hd H2) (S.lst' (e1.trans e2)))
def u5{op:CmpOp}{g:D->D->Option D}(ho:OpS X (cH op) g)(ha:PX X M a fa ca)(hb:PX X M b fb cb)(hm:iy op b=yH:=by first|exact a8n _|with_unfolding_all rfl):PTX X M (.Compare a [op] [b] pos) (tB (e2 g fa fb)):=by
 obtain⟨r,hr,hs⟩:=ho;obtain⟨ta,pa,qa⟩:=ha.out;obtain⟨tb,pb,qb⟩:=hb.out;refine .mk ⟨_,a9Q hr pa pb hm,λZ U H P F k Q S hf q=>?_⟩;obtain⟨d,hf,hk⟩:=bnd hf;cases O2 hk
 obtain⟨x,y,h1,h2,h3⟩:=F8 hf;exact qa Z U H P F x _ S h1 λv H1 e1 r1=>qb Z U H1 P F y _ (S.grow e1) h2 λw H2 e2 r2=>hs v w H2 x y _ _ (r1.den.up e2) r2.den h3 λz hi hd=>⟨k,(hd H2).bool_inv,q H2 (e1.trans e2)⟩
def b3q{op pP:CmpOp}{g g':D->D->Option D}{c0:Expr}(ho:OpS X (cH op) g)(nV:OpS X (cH pP) g')(ha:PX X M a fa ca)(hb:PX X M b fb cb)(hc:PX X M c0 fc cc)(hm:Bd [op,pP] [b,c0]=yH:=by with_unfolding_all rfl) :
  PX X M (.Compare a [op,pP] [b,c0] pos) (eCh g g' fa fb fc) (.new .i):=by
 obtain⟨r,hr,hs⟩:=ho;obtain⟨r',sG,iZ⟩:=nV;obtain⟨ta,pa,qa⟩:=ha.out;obtain⟨tb,pb,qb⟩:=hb.out;obtain⟨tc,pc,qc⟩:=hc.out;refine .mk ⟨_,b2Y hr sG pa pb pc hm,λZ U H P F d Q S hf q=>?_⟩;obtain⟨x,h1,hf⟩:=bnd hf;obtain⟨y,h2,hf⟩:=bnd hf;obtain⟨z,h3,hf⟩:=bnd hf;obtain⟨k,h4,hf⟩:=bnd hf;cases O2 h4
 refine qa Z U H P F x _ S h1 λv H1 e1 r1=>qb Z U H1 P F y _ (S.grow e1) h2 λw H2 e2 r2=>hs v w H2 x y _ _ (r1.den.up e2) r2.den h3 λz hi hd=>⟨k,(hd H2).bool_inv,?_⟩
 cases k with
 |false=>
  have mU:d=.bool yH:=(aK hf).symm;subst mU;exact a4E (q _ H2 (e1.trans e2) (I9 (by simp only[imm]) den_bool (S.lst' (e1.trans e2))))
 |true=>
  obtain⟨w',h5,hf⟩:=bnd (show (fc Z).bind (λw=>g' y w)=cz d from hf);exact a3f (qc Z U H2 P F w' _ (S.grow (e1.trans e2)) h5 λw3 H3 e3 r3=>iZ w w3 H3 y w' d Q (r2.den.up e3) r3.den hf λz hi hd=>q z H3 ((e1.trans e2).trans e3) (I9 hi (hd H3) (S.lst' ((e1.trans e2).trans e3))))
def a1E{op pP:CmpOp}{g g':D->D->Option D}{c0:Expr}(ho:OpS X (cH op) g)(nV:OpS X (cH pP) g')(ha:PX X M a fa ca)(hb:PX X M b fb cb)(hc:PX X M c0 fc cc)(hm:Bd [op,pP] [b,c0]=yH:=by with_unfolding_all rfl) :
  PTX X M (.Compare a [op,pP] [b,c0] pos) (tB (eCh g g' fa fb fc)):=by
 obtain⟨r,hr,hs⟩:=ho;obtain⟨r',sG,iZ⟩:=nV;obtain⟨ta,pa,qa⟩:=ha.out;obtain⟨tb,pb,qb⟩:=hb.out;obtain⟨tc,pc,qc⟩:=hc.out;refine .mk ⟨_,b2Z hr sG pa pb pc hm,λZ U H P F k0 Q S hf q=>?_⟩;obtain⟨d,hf,hk⟩:=bnd hf;cases O2 hk
 obtain⟨x,h1,hf⟩:=bnd hf;obtain⟨y,h2,hf⟩:=bnd hf;obtain⟨z,h3,hf⟩:=bnd hf;obtain⟨k,h4,hf⟩:=bnd hf;cases O2 h4
 refine qa Z U H P F x _ S h1 λv H1 e1 r1=>qb Z U H1 P F y _ (S.grow e1) h2 λw H2 e2 r2=>hs v w H2 x y _ _ (r1.den.up e2) r2.den h3 λz hi hd=>⟨k,(hd H2).bool_inv,?_⟩
 cases k with
 |false=>
  have mU:k0=yH:=by injection (aK hf).symm
  subst mU;exact a4E ⟨yH,rfl,q H2 (e1.trans e2)⟩
 |true=>
  obtain⟨w',h5,hf⟩:=bnd (show (fc Z).bind (λw=>g' y w)=cz (.bool k0) from hf);exact a3f (qc Z U H2 P F w' _ (S.grow (e1.trans e2)) h5 λw3 H3 e3 r3=>iZ w w3 H3 y w' _ _ (r2.den.up e3) r3.den hf λz hi hd=>⟨k0,(hd H3).bool_inv,q H3 ((e1.trans e2).trans e3)⟩)
def a3l(h:PX X M a f c):PX X M (.BoolOp op [a] pos) f c:=by
 obtain⟨t,p,q⟩:=h.out;exact .mk ⟨t,b8M p,q⟩
def a3m(ha:PX X M a fa ca)(hb:PX X M (.BoolOp .And (b::rest) pos) fb (.new .i)):PX X M (.BoolOp .And (a::b::rest) pos) (a6Z fa fb) (.new .i):=by
 obtain⟨ta,pa,qa⟩:=ha.out;obtain⟨tb,pb,qb⟩:=hb.out;refine .mk ⟨_,b8N pa pb,λZ U H P F d Q S hf q=>?_⟩;obtain⟨x,h1,hf⟩:=bnd hf;obtain⟨k,h2,hf⟩:=bnd hf;cases O2 h2
 refine qa Z U H P F _ _ S h1 λv H1 e1 r1=>⟨k,r1.den.bool_inv,?_⟩
 cases k with
 |false=>
  have mU:d=.bool yH:=(aK hf).symm;subst mU;exact a4E (q _ H1 e1 (I9 (by simp only[imm]) den_bool (S.lst' e1)))
 |true=>exact a3f (qb Z U H1 P F d Q (S.grow e1) hf λw H2 e2 r2=>q w H2 (e1.trans e2) (r2.early e1))
def b9p(ha:PX X M a fa ca):PX X M (.UnaryOp .Not a pos) (b6z fa) (.new .i):=by
 obtain⟨ta,pa,qa⟩:=ha.out;refine .mk ⟨_,b8O pa,λZ U H P F d Q S hf q=>?_⟩;obtain⟨x,h1,hf⟩:=bnd hf;obtain⟨k,h2,hf⟩:=bnd hf;cases O2 h2
 cases hf
 exact qa Z U H P F _ _ S h1 λv H1 e1 r1=>⟨k,r1.den.bool_inv,q _ H1 e1 (I9 (by simp only[imm]) den_bool (S.lst' e1))⟩
def a3n:PX X M (.UnaryOp .USub (.Constant (.int i) j p) pos) (eC (.int (-i))) (.new .i):=by
 refine .mk ⟨_,c1p b9e a8j,λZ U H P F d Q S hf q=>?_⟩;cases hf
 exact⟨i,rfl,q _ H (Same.refl _) (I9 (by simp only[imm]) den_int S.lst)⟩
def b3r(h:Den K H v d)(ht:tr d=cz k):b6j K v H k:=by
 cases d with
 |none=>cases h.none_inv;cases ht;exact rfl
 |bool b=>cases h.bool_inv;cases ht;exact rfl
 |int i=>cases h.int_inv;cases ht;exact rfl
 |str x=>
  cases h.str_inv
  replace ht:(if x.length<=bg then cz ((x.length:Int)!=0) else xn)=cz k:=ht
  by_cases z:x.length<=bg
  ·rw[aE z]at ht;cases ht
   exact⟨z,rfl⟩
  ·rw[aM z]at ht;cases ht
 |list ds=>
  obtain⟨a,xs,rfl,h1,h2⟩:=h.list_inv;cases ht
  refine .inl ⟨xs,h1.l,?_⟩;have:=h2.length;cases xs<;>cases ds<;>simp_all
 |tuple ds=>
  obtain⟨a,xs,rfl,h1,h2⟩:=h.tup_inv;cases ht
  refine .inr (.inl ⟨xs,h1,?_⟩);have:=h2.length;cases xs<;>cases ds<;>simp_all
 |dict kvs=>cases ht
def w9(ha:PX X M a fa ca)(he:∀whole,Di a X.env whole=(do let v <-whole;standAt a.pos;holding [v] (truthy v)):=by intro _;rfl):PTX X M a (tV fa):=by
 obtain⟨ta,pa,qa⟩:=ha.out;refine .mk ⟨_,b3b pa he,λZ U H P F k Q S hf q=>?_⟩;obtain⟨x,h1,hf⟩:=bnd hf;exact qa Z U H P F _ _ S h1 λv H1 e1 r1=>⟨k,b3r r1.den hf,q H1 e1⟩
def a0e(h:PTX X M a ga):PTX X M (.UnaryOp .Not a pos) (tNo ga):=by
 obtain⟨ta,pa,qa⟩:=h.out;refine .mk ⟨_,b8L pa,λZ U H P F k Q S hf q=>?_⟩;obtain⟨x,h1,hf⟩:=bnd hf;cases hf
 exact qa Z U H P F _ _ S h1 λH1 e1=>q H1 e1
theorem PWX.pt(h:PWX X M e ga):PTX X M e ga:=by
 obtain⟨t,p,q⟩:=h.out;exact .mk ⟨t,p.pt,q⟩
def a7a(h:PTX X M a ga):PWX X M (.BoolOp .And [a] pos) ga:=by
 obtain⟨t,p,q⟩:=h.out;exact .mk ⟨t,b6c p,q⟩
def a1d(h:PTX X M a ga):PWX X M (.BoolOp .Or [a] pos) ga:=by
 obtain⟨t,p,q⟩:=h.out;exact .mk ⟨t,b8J p,q⟩
def a9W(ha:PTX X M a ga)(hb:PWX X M (.BoolOp .And (b::rest) pos) gb):PWX X M (.BoolOp .And (a::b::rest) pos) (tAn ga gb):=by
 obtain⟨ta,pa,qa⟩:=ha.out;obtain⟨tb,pb,qb⟩:=hb.out;refine .mk ⟨_,b8K pa pb,λZ U H P F k Q S hf q=>?_⟩;obtain⟨x,h1,hf⟩:=bnd hf;refine qa Z U H P F _ _ S h1 λH1 e1=>?_
 cases x with
 |false=>cases hf;exact a4E (q H1 e1)
 |true=>exact a3f (qb Z U H1 P F k Q (S.grow e1) hf λH2 e2=>q H2 (e1.trans e2))
def Q2(ha:PTX X M a ga)(hb:PWX X M (.BoolOp .Or (b::rest) pos) gb):PWX X M (.BoolOp .Or (a::b::rest) pos) (a1C ga gb):=by
 obtain⟨ta,pa,qa⟩:=ha.out;obtain⟨tb,pb,qb⟩:=hb.out;refine .mk ⟨_,c1i pa pb,λZ U H P F k Q S hf q=>?_⟩;obtain⟨x,h1,hf⟩:=bnd hf;refine qa Z U H P F _ _ S h1 λH1 e1=>?_
 cases x with
 |true=>cases hf;exact a3f (q H1 e1)
 |false=>exact a4E (qb Z U H1 P F k Q (S.grow e1) hf λH2 e2=>q H2 (e1.trans e2))
def f9:PAX X M [] b9:=⟨_,o9,λZ U H P F ds Q S hf q=>by cases hf;exact q [] H (Same.refl _) denAll_nil⟩
def a8{fr:List D->Option (List D)}(ha:PX X M a fa ca)(hr:PAX X M es fr)(hs:aq (a::es) X.env=(yH,cD a X.env)::aq es X.env:=by rfl):PAX X M (a::es) (a7 fa fr):=by
 obtain⟨ta,pa,qa⟩:=ha.out;obtain⟨tr,pr,qr⟩:=hr;refine⟨_,l6 pa pr hs,λZ U H P F ds Q S hf q=>?_⟩;obtain⟨x,h1,hf⟩:=bnd hf;obtain⟨xs,h2,hf⟩:=bnd hf;cases hf
 exact qa Z U H P F _ _ S h1 λv H1 e1 r1=>qr Z U H1 P F _ _ (S.grow e1) h2 λvs H2 e2 r2=>q (v::vs) H2 (e1.trans e2) (denAll_cons (r1.den.up e2) r2)
def l0:PAN X M [] b9 []:=⟨_,o9,λZ U H P F ds Q S hf q=>by
 cases hf
 refine q [] H [] (Same.refl _) ?_ bH λa ha=>(nomatch ha)
 simp only[OwnTs];exact⟨trivial,trivial,trivial⟩⟩
def i7{fr:List D->Option (List D)}(ha:PX X M a fa (.new u))(hr:PAN X M es fr us)(hs:aq (a::es) X.env=(yH,cD a X.env)::aq es X.env:=by rfl):PAN X M (a::es) (a7 fa fr) (u::us):=by
 obtain⟨ta,pa,qa⟩:=ha.out;obtain⟨tr,pr,qr⟩:=hr;refine⟨_,l6 pa pr hs,λZ U H P F ds Q S hf q=>?_⟩;obtain⟨x,h1,hf⟩:=bnd hf;obtain⟨xs,h2,hf⟩:=bnd hf;cases hf
 refine qa Z U H P F _ _ S h1 λv H1 e1 ⟨fp,o,n,fr⟩=>qr Z U H1 P (fp++F) _ _ (S.more e1 fr (o.lst u)) h2 λvs H2 gp e2 o2 n2 Ap=>?_
 have hl:=o.lst u;have hc:Same (cut H1 (fp++F)) (cut H2 (fp++gp++F)):=R7 e2 λa o' ha ma=>by
  rw[aV]at ma;rcases av.mp ma with z|z
  ·exact ao _ z
  ·rcases av.mp z with z|z
   ·rw[Ap a z]at ha;cases ha
   ·exact ai _ z
 have hd:∀a∈gp,a∉fp:=λa ha z=>by
  obtain⟨ys,q⟩:=hl a z;rw[Ap a ha]at q;cases q
 refine q (v::vs) H2 (fp++gp) (e1.trans e2) ?_ ?_ λa ha=>?_
 ·simp only[OwnTs];refine⟨v,vs,x,xs,fp,gp,rfl,rfl,rfl,o.frame hc u λa ha=>?_,o2.frame (H:=H2) (F6 λa ha=>?_) us λ_ _=>rfl⟩
  ·obtain⟨ys,q⟩:=hl a ha;rw[q,e2 _ _ q]
  ·simp only[av]at ha ⊢;rcases ha with (z|z)|z
   ·exact .inr (.inl z)
   ·exact .inl z
   ·exact .inr (.inr z)
 ·rw[bR];exact⟨n,n2,λa ha b hb e=>hd b hb (e▸ha)⟩
 ·rcases av.mp ha with z|z
  ·exact fr a z
  ·exact e1.free (Ap a z)
end
section
variable {K:ae}{H H0 H1:Hp}{F fp:List aw}{vs:List V}{ds:List D}{p:aw}{u:Ty}{us:List Ty}
def b6A(hp:H p=xn):Same (cut H (fp++F)) (cut (upd H p o) (p::fp++F)):=R7 (l9 hp o) λa u ha ma=>by
 rw[bG]at ma;rcases aG.mp ma with z|z
 ·subst z;rw[hp]at ha;cases ha
 ·exact z
theorem a5j:∀{n:Nat} {vs:List V} {ds:List D} {fp:List aw},OwnTs K H F (aP n u) vs ds fp->ListAll (Own K H F u) vs ds fp
 |0,_,_,_,h=>by
  simp only[gX,OwnTs]at h;obtain⟨rfl,rfl,rfl⟩:=h;exact p7
 |n+1,_,_,_,h=>by
  simp only[jw,OwnTs]at h;obtain⟨v,r,d,e,f,g,rfl,rfl,rfl,h1,h2⟩:=h;exact m9 h1 (a5j h2)
theorem OwnTs.len:∀{us:List Ty} {vs:List V} {ds:List D} {fp:List aw},OwnTs K H F us vs ds fp->vs.length=us.length/\ds.length=us.length
 |[],_,_,_,h=>by simp only[OwnTs]at h;obtain⟨rfl,rfl,_⟩:=h;exact⟨rfl,rfl⟩
 |u::us,_,_,_,h=>by
  simp only[OwnTs]at h;obtain⟨v,r,d,e,f,g,rfl,rfl,rfl,_,h2⟩:=h;obtain⟨a,b⟩:=OwnTs.len h2;exact⟨by rw[aY,aY,a],by rw[aY,aY,b]⟩
def n9(e:Same (cut H F) (cut H1 F'))(h:ListAll (Own K H F u) vs ds fp)(k:∀a∈fp,H1 a=H a):ListAll (Own K H1 F' u) vs ds fp:=
 h.imp λv d f hf _ q=>q.frame e u λa ha=>k a (hf a ha)
def a3o(h:ListAll (Own K H1 (fp++F) u) vs ds fp)(hn:fp.Nodup)(hf:∀a∈fp,H a=xn)(e:Same H H1)(hp:H1 p=xn)(hl:∀a∈fp,∃ys:MuO,H1 a=cz ys.1):ResR K (.new (.l u)) H (upd H1 p (.lst vs)) F (.ref p) (.list ds):=by
 have vY:p∉fp:=λz=>by obtain⟨ys,q⟩:=hl p z;rw[hp]at q;cases q
 refine⟨p::fp,?_,bY.mpr ⟨vY,hn⟩,λa ha=>?_⟩
 ·simp only[Own];refine .inr ⟨p,vs,ds,fp,rfl,i6,rfl,rfl,n9 (b6A hp) h λa ha=>?_⟩;exact c9 λz=>vY (z▸ha)
 ·rcases aG.mp ha with z|z
  ·subst z;exact e.free hp
  ·exact hf a z
theorem ListAll.of_den:∀{vs:List V} {ds:List D},DenAll K H vs ds->(∀v d,d∈ds->Den K H v d->R v d [])->ListAll R vs ds []
 |_,[],h,_=>by rw[h.nil_inv];exact p7
 |_,d::ds,h,k=>by
  obtain⟨v,r,rfl,h1,h2⟩:=h.cons_inv;have:=m9 (f:=[]) (k v d aN h1) (ListAll.of_den h2 λv d hd=>k v d (ax _ hd));exact this
theorem J7:∀{ds:List D} {d:D},g6 ds=yn->d∈ds->imm d=yn
 |[],d,_,h=>nomatch h
 |d0::ds,d,q,h=>by
  simp only[g6,aD]at q;rcases aG.mp h with z|z
  ·rw[z];exact q.1
  ·exact J7 q.2 z
def a0f(h:DenAll K H1 vs ds)(hi:g6 ds=yn)(e:Same H H1)(hp:H1 p=xn)(hF:∀a∈F,∃ys:MuO,H1 a=cz ys.1):ResR K (.new (.l .i)) H (upd H1 p (.lst vs)) F (.ref p) (.list ds):=
 a3o (fp:=[]) (ListAll.of_den h λv d hd q=>by
  simp only[Own,bM];exact⟨trivial,J7 hi hd,q.imm_out hF d (J7 hi hd)⟩) bH (λa ha=>(nomatch ha)) e hp λa ha=>(nomatch ha)
def b1q(h:DenAll K (cut H1 F) vs ds)(e:Same H H1)(hp:H1 p=xn):ResR K (.new (.l .f)) H (upd H1 p (.lst vs)) F (.ref p) (.list ds):=
 a3o (fp:=[]) (ListAll.of_den h λv d hd q=>by
  simp only[Own,bM];exact⟨trivial,q⟩) bH (λa ha=>(nomatch ha)) e hp λa ha=>(nomatch ha)
def a7b(h:DenAll K H1 vs ds)(hp:H1 p=xn):Den K (upd H1 p (.tup vs)) (.ref p) (.tuple ds):=den_tup (SqT.of i6) (h.up (l9 hp _))
def b6B(h:g6 ds=yn):imm (.tuple ds)=yn:=by simpa only [imm]using h
end
def v6(f:EvA):EvE:=λZ=>(f Z).bind λds=>cz (.list ds)
def T8(f:EvA):EvE:=λZ=>(f Z).bind λds=>cz (.tuple ds)
def a5Y(d:D):Option D:=if imm d then cz d else xn
def a5k(h:a5Y d=cz e):e=d/\imm d=yn:=by
 unfold a5Y at h;by_cases c:imm d=yn
 ·rw[aE c]at h;exact⟨(aK h).symm,c⟩
 ·rw[aM c]at h;cases h
def b3s(d:D):Option D:=match d with
 |.list ds=>if g6 ds then cz d else xn
 |_=>xn
def a8A(h:b3s d=cz e):∃ds,d=.list ds/\e=.list ds/\g6 ds=yn:=by
 cases d with
 |list ds=>
  have h':(if g6 ds=yn then cz (cF ds) else xn)=cz e:=h;by_cases c:g6 ds=yn
  ·rw[aE c]at h';exact⟨ds,rfl,(aK h').symm,c⟩
  ·rw[aM c]at h';cases h'
 |_=>cases h
section
variable {X:Cx}{M:List Md}{a b e:Expr}{es:List Expr}{fa fb:EvE}{f:EvA}{c ca cb:Cat}{u:Ty}{us:List Ty}{pos:fS}
def p9(h:PAN X M es f (aP n u))(hn:n<=1000:=by decide):PX X M (.List es pos) (v6 f) (.new (.l u)):=by
 obtain⟨t,p,q⟩:=h;refine .mk ⟨_,b9g p,λZ U H P F d Q S hf k=>?_⟩;obtain⟨ds,h1,hf⟩:=bnd hf;cases hf
 refine q Z U H P F ds _ S h1 λvs H1 fp e o nd fr=>⟨?_,λx hx=>k (.ref x) _ (e.trans (l9 hx _)) (a3o (a5j o) nd fr e hx (o.lst _))⟩
 rw[o.len.1,gy];exact fg (a0c hn)
def b9q(h:PAN X M es f us)(hn:us.length<=1000:=by decide):PX X M (.Tuple es j pos) (T8 f) (.new (.tp us)):=by
 obtain⟨t,p,q⟩:=h;refine .mk ⟨_,a8p p,λZ U H P F d Q S hf k=>?_⟩;obtain⟨ds,h1,hf⟩:=bnd hf;cases hf
 refine q Z U H P F ds _ S h1 λvs H1 fp e o nd fr=>⟨?_,λx hx=>k (.ref x) _ (e.trans (l9 hx _)) ⟨fp,?_,nd,fr⟩⟩
 ·rw[o.len.1];exact fg (a0c hn)
 ·have Bj:x∉fp++F:=λz=>by
   rcases av.mp z with z|z
   ·obtain⟨ys,q⟩:=o.lst _ x z;rw[hx]at q;cases q
   ·obtain⟨ys,q⟩:=S.lst' e x z;rw[hx]at q;cases q
  simp only[Own];refine .inr ⟨x,vs,ds,rfl,i6,Bj,rfl,o.frame (O1 (l9 hx _)) us λa ha=>?_⟩;exact c9 λz=>Bj (z▸ao _ ha)
theorem a7c:∀{n:Nat} {vs:List V} {ds:List D} {fp:List aw},OwnTs K H F (aP n .i) vs ds fp->g6 ds=yn
 |0,_,_,_,h=>by
  simp only[gX,OwnTs]at h;obtain⟨rfl,rfl,rfl⟩:=h;simp only[g6]
 |n+1,_,_,_,h=>by
  simp only[jw,OwnTs]at h;obtain⟨v,r,d,e,f,g,rfl,rfl,rfl,h1,h2⟩:=h;simp only[g6,aD];exact⟨(a2l h1).2.1,a7c h2⟩
def a0g{j}(h:PAN X M es f (aP n .i))(hn:n<=1000:=by decide):PX X M (.Tuple es j pos) (T8 f) (.new .i):=by
 obtain⟨t,p,q⟩:=h;refine .mk ⟨_,a8p p,λZ U H P F d Q S hf k=>?_⟩;obtain⟨ds,h1,hf⟩:=bnd hf;cases hf
 refine q Z U H P F ds _ S h1 λvs H1 fp e o nd fr=>⟨?_,λx hx=>k (.ref x) _ (e.trans (l9 hx _)) (I9 (b6B (a7c o)) (a7b (o.den _) hx) (S.lst' (e.trans (l9 hx _))))⟩
 rw[o.len.1,gy];exact fg (a0c hn)
def b1r{Z:List D}(hr:∀Z ds,r Z=cz ds->ds.length=n)(h:a7 fa r Z=cz ds):ds.length=n+1:=by
 obtain⟨x,_,h⟩:=bnd h;obtain⟨xs,h2,h⟩:=bnd h;cases h
 rw[aY,hr Z xs h2]
def dIx:D->D->Option D
 |.list ds,.int k=>atI ds k
 |.tuple ds,.int k=>atI ds k
 |_,_=>xn
def a4G:D->D->Option D
 |.list ds,.int k=>atI ds k
 |_,_=>xn
def u6(a b:D):Option D:=(dIx a b).bind a5Y
theorem DenAll.atI(h:DenAll K H vs ds)(e:L2.atI ds k=cz d):∃v j,L2.atI vs k=cz v/\ixN ds.length k=cz j/\vs[j]?=cz v/\ds[j]?=cz d/\Den K H v d:=by
 unfold L2.atI at e ⊢;obtain⟨j,e1,e2⟩:=bnd e;obtain⟨v,h1,h2⟩:=h.get e2;exact⟨v,j,by rw[h.length,e1];exact h1,e1,h1,e2,h2⟩
def c1z(K:ae):R2:=λx y H Q=>c1v K x y H Q\/c1w K x y H Q
def a5Z:IxR X (c1z X.K):=b6r.or b9j
def a9X(h:dIx x y=cz d):∃ds k,(x=.list ds\/x=.tuple ds)/\y=.int k/\L2.atI ds k=cz d:=by
 cases x with
 |list ds=>cases y with
  |int k=>exact⟨ds,k,.inl rfl,rfl,h⟩
  |_=>cases h
 |tuple ds=>cases y with
  |int k=>exact⟨ds,k,.inr rfl,rfl,h⟩
  |_=>cases h
 |_=>cases h
def c1A(hx:Den K H v x)(hy:Den K H w y)(h:dIx x y=cz d)(q:∀z,Den K H z d->Q z H):c1z K v w H Q:=by
 obtain⟨ds,k,e,rfl,h⟩:=a9X h;cases hy.int_inv
 rcases e with rfl|rfl
 ·obtain⟨a,xs,rfl,h1,h2⟩:=hx.list_inv;obtain⟨z,j,z1,z2,z3,z4,z5⟩:=h2.atI h;exact .inl ⟨a,xs,k,z,rfl,rfl,h1.l,z1,q z z5⟩
 ·obtain⟨a,xs,rfl,h1,h2⟩:=hx.tup_inv;obtain⟨z,j,z1,z2,z3,z4,z5⟩:=h2.atI h;exact .inr ⟨a,xs,k,z,rfl,rfl,h1,z1,q z z5⟩
def A7(ha:PX X M a fa ca)(hb:PX X M b fb cb)(hs:a2O b:=by exact λ_ _=>rfl):PX X M (.Subscript a b pos) (e2 u6 fa fb) (.new .i):=by
 obtain⟨ta,pa,qa⟩:=ha.out;obtain⟨tb,pb,qb⟩:=hb.out;refine .mk ⟨_,a9S a5Z pa pb hs,λZ U H P F d Q S hf q=>?_⟩;obtain⟨x,y,h1,h2,h3⟩:=F8 hf;obtain⟨d',h3,h4⟩:=bnd h3;obtain⟨rfl,hi⟩:=a5k h4;exact qa Z U H P F x _ S h1 λv H1 e1 r1=>qb Z U H1 P F y _ (S.grow e1) h2 λw H2 e2 r2=>c1A (r1.den.up e2) r2.den h3 λz hz=>q z H2 (e1.trans e2) (I9 hi hz (S.lst' (e1.trans e2)))
def D8(ha:PX X M a fa (.new .f))(hb:PX X M b fb cb)(hs:a2O b:=by exact λ_ _=>rfl):PX X M (.Subscript a b pos) (e2 dIx fa fb) (.new .f):=by
 obtain⟨ta,pa,qa⟩:=ha.out;obtain⟨tb,pb,qb⟩:=hb.out;refine .mk ⟨_,a9S a5Z pa pb hs,λZ U H P F d Q S hf q=>?_⟩;obtain⟨x,y,h1,h2,h3⟩:=F8 hf;refine qa Z U H P F x _ S h1 λv H1 e1 ⟨fp,o,_,_⟩=>qb Z U H1 P F y _ (S.grow e1) h2 λw H2 e2 r2=>?_
 obtain⟨rfl,o⟩:=a9V o;have o2:Den X.K (cut H2 F) v x:=o.up (O1 e2);obtain⟨ds,k,e,rfl,h⟩:=a9X h3;have fin:∀z,Den X.K (cut H2 F) z d->Q z H2:=λz hz=>q z H2 (e1.trans e2) ⟨[],by simp only[Own,bM];exact⟨trivial,hz⟩,bH,λa ha=>(nomatch ha)⟩
 have ey:=r2.den.int_inv;rcases e with rfl|rfl
 ·obtain⟨a,xs,rfl,h1,h2⟩:=o2.list_inv;obtain⟨z,j,z1,z2,z3,z4,z5⟩:=h2.atI h;exact .inl ⟨a,xs,k,z,rfl,ey,(P9 h1 k7).l,z1,fin z z5⟩
 ·obtain⟨a,xs,rfl,h1,h2⟩:=o2.tup_inv;obtain⟨z,j,z1,z2,z3,z4,z5⟩:=h2.atI h;exact .inr ⟨a,xs,k,z,rfl,ey,a0J h1 k7,z1,fin z z5⟩
def a6a(ha:PX X M a fa (.bor (.l u)))(hb:PX X M b fb cb)(hs:a2O b:=by exact λ_ _=>rfl):PX X M (.Subscript a b pos) (e2 a4G fa fb) (.bor u):=by
 obtain⟨ta,pa,qa⟩:=ha.out;obtain⟨tb,pb,qb⟩:=hb.out;refine .mk ⟨_,a9S a5Z pa pb hs,λZ U H P F d Q S hf q=>?_⟩;obtain⟨x,y,h1,h2,h3⟩:=F8 hf;refine qa Z U H P F x _ S h1 λv H1 e1 ⟨fp,o,sub⟩=>qb Z U H1 P F y _ (S.grow e1) h2 λw H2 e2 r2=>?_
 have o2:=o.grow e2;cases x with
 |list ds=>
  cases y with
  |int k=>
   simp only[Own]at o2;rcases o2 with⟨_,hi,_⟩|⟨p,xs,jU,fs,rfl,p1,p2,rfl,p3⟩
   ·simp only[imm]at hi;cases hi
   ·cases p2
    have rW:(ixN ds.length k).bind (λj=>ds[j]?)=cz d:=h3;obtain⟨j,j1,j2⟩:=bnd rW;obtain⟨z,f,pre,post,z1,z2,z3,_,_⟩:=p3.at_ j2;refine .inl ⟨p,xs,k,z,rfl,r2.den.int_inv,.inl (.inl p1),?_,q z H2 (e1.trans e2) ⟨f,z2,λa ha=>sub a ?_⟩⟩
    ·unfold L2.atI;rw[p3.length,j1];exact z1
    ·rw[z3];exact ax _ (ai _ (ao _ ha))
  |_=>cases h3
 |_=>cases h3
end
def eCl(g:List D->Option D)(f:EvA):EvE:=λZ=>(f Z).bind g
section
variable {X:Cx}{M:List Md}{a b e e0:Expr}{es:List Expr}{fa fb:EvE}{f:EvA}{c ca cb:Cat}{u:Ty}{us:List Ty}{pos p:fS}{x:bA}
def Q3{id:String}{g:List D->Option D}(hc:a3i X (.builtin id) g)(hm:X.mg x=xn)(hv:fQ x=cz (.builtin id))(h:PAX X M (e0::es) f)(hg:Gl X x:=by rfl)(hn:x≠"__name__":=by decide)(lM:(x==("__debug__":bA))=yH:=by decide)
  (he:aq (e0::es) X.env=(yH,cD e0 X.env)::aq es X.env:=by rfl) (gn:(cy pos (aq es X.env)).any (·.1)=yH:=by rfl):PX X M (.Call (.Name x p) (e0::es) [] pos) (eCl g f) (.new .i):=by
 obtain⟨r,hr,hs⟩:=hc;obtain⟨t,pa,qa⟩:=h;refine .mk ⟨_,a0Z hr hg hm hv pa hn lM he gn,λZ U H P F d Q S hf q=>?_⟩;obtain⟨ds,h1,hf⟩:=bnd hf;exact qa Z U H P F ds _ S h1 λvs H1 e1 r1=>hs vs H1 ds d Q r1 hf λz hi hd=>q z H1 e1 (I9 hi (hd H1) (S.lst' e1))
def b9r(hc:a3i X (.type T) g)(hm:X.mg x=xn)(hv:fQ x=cz (.type T))(h:PAX X M (e0::es) f)(hg:Gl X x:=by rfl)(hn:x≠"__name__":=by decide)(lM:(x==("__debug__":bA))=yH:=by decide)
  (he:aq (e0::es) X.env=(yH,cD e0 X.env)::aq es X.env:=by rfl) (gn:(cy pos (aq es X.env)).any (·.1)=yH:=by rfl):PX X M (.Call (.Name x p) (e0::es) [] pos) (eCl g f) (.new .i):=by
 obtain⟨r,hr,hs⟩:=hc;obtain⟨t,pa,qa⟩:=h;refine .mk ⟨_,R1 hr hg hm hv pa hn lM he gn,λZ U H P F d Q S hf q=>?_⟩;obtain⟨ds,h1,hf⟩:=bnd hf;exact qa Z U H P F ds _ S h1 λvs H1 e1 r1=>hs vs H1 ds d Q r1 hf λz hi hd=>q z H1 e1 (I9 hi (hd H1) (S.lst' e1))
def T9(h:DenAll K H xs [d]):∃v,xs=[v]/\Den K H v d:=by
 obtain⟨v,r,rfl,h1,h2⟩:=h.cons_inv;cases h2.nil_inv
 exact⟨v,rfl,h1⟩
def a0h{K:ae}{H:Hp}{xs:List V}{d e:D}(h:DenAll K H xs [d,e]):∃v w,xs=[v,w]/\Den K H v d/\Den K H w e:=by
 obtain⟨v,r,rfl,h1,h2⟩:=h.cons_inv;obtain⟨w,rfl,h3⟩:=T9 h2;exact⟨v,w,rfl,h1,h3⟩
def J8:List D->Option D
 |[.list ds]=>cz (.int ds.length)
 |[.tuple ds]=>cz (.int ds.length)
 |[.str x]=>if x.length<=bg then cz (.int x.length) else xn
 |_=>xn
def b9s:a3i X (.builtin "len") J8:=by
 refine⟨_,a5S.or a5T,λxs H ds d Q hd hg q=>?_⟩
 match ds,hg with
 |[.list es],hg=>
  cases hg
  obtain⟨v,rfl,h⟩:=T9 hd;obtain⟨a,ys,rfl,h1,h2⟩:=h.list_inv;refine .inl ⟨a,ys,rfl,.inl h1.l,?_⟩;rw[h2.length];exact q _ (by simp only[imm]) λ_=>den_int
 |[.tuple es],hg=>
  cases hg
  obtain⟨v,rfl,h⟩:=T9 hd;obtain⟨a,ys,rfl,h1,h2⟩:=h.tup_inv;refine .inl ⟨a,ys,rfl,.inr h1,?_⟩;rw[h2.length];exact q _ (by simp only[imm]) λ_=>den_int
 |[.str x],hg=>
  have uW:(if x.length<=bg then cz (aR x.length) else xn)=cz d:=hg;by_cases z:x.length<=bg
  ·rw[aE z]at uW;cases uW
   obtain⟨v,rfl,h⟩:=T9 hd;cases h.str_inv
   exact .inr ⟨x,rfl,z,q _ (by simp only[imm]) λ_=>den_int⟩
  ·rw[aM z]at uW;cases uW
 |[.none],hg|[.bool _],hg|[.int _],hg|[.dict _],hg=>cases hg
 |[],hg=>cases hg
 |d1::_::_,hg=>cases d1<;>cases hg
def D0(mx:Bool):List D->Option D
 |[.int i,.int j]=>cz (.int (if mx then (if j>i then j else i) else (if j<i then j else i)))
 |_=>xn
def b3t(h:D0 mx ds=cz d):∃i j,ds=[.int i,.int j]/\d=.int (if mx then (if j>i then j else i) else (if j<i then j else i)):=by
 match ds,h with
 |[.int i,.int j],h=>cases h;exact⟨i,j,rfl,rfl⟩
def a1F(hc:X.calm=yn):a3i X (.builtin "max") (D0 yn):=by
 refine⟨_,b1g hc,λxs H ds d Q hd hg q=>?_⟩;obtain⟨i,j,rfl,rfl⟩:=b3t hg;obtain⟨v,w,rfl,h1,h2⟩:=a0h hd;cases h1.int_inv
 cases h2.int_inv
 exact⟨i,j,rfl,q _ (by simp only[imm]) λ_=>den_int⟩
def b9t(hc:X.calm=yn):a3i X (.builtin "min") (D0 yH):=by
 refine⟨_,b1h hc,λxs H ds d Q hd hg q=>?_⟩;obtain⟨i,j,rfl,rfl⟩:=b3t hg;obtain⟨v,w,rfl,h1,h2⟩:=a0h hd;cases h1.int_inv
 cases h2.int_inv
 exact⟨i,j,rfl,q _ (by simp only[imm]) λ_=>den_int⟩
def a6b:List D->Option D
 |[.int i]=>cz (.int i)
 |[.bool k]=>cz (.int (if k then 1 else 0))
 |_=>xn
def b9u:a3i X (.type "int") a6b:=by
 refine⟨_,b1i,λxs H ds d Q hd hg q=>?_⟩
 match ds,hg with
 |[.int i],hg=>
  cases hg
  obtain⟨v,rfl,h⟩:=T9 hd;cases h.int_inv
  exact .inl ⟨i,rfl,q _ (by simp only[imm]) λ_=>den_int⟩
 |[.bool i],hg=>
  cases hg
  obtain⟨v,rfl,h⟩:=T9 hd;cases h.bool_inv
  exact .inr ⟨i,rfl,q _ (by simp only[imm]) λ_=>den_int⟩
 |[.none],hg|[.str _],hg|[.dict _],hg|[.list _],hg|[.tuple _],hg=>cases hg
 |[],hg=>cases hg
 |d1::_::_,hg=>cases d1<;>cases hg
def c1B:List D->Option (List Bool)
 |[]=>cz []
 |.bool b::r=>(c1B r).map (b::·)
 |_=>xn
def tyD:D->String
 |.int _=>"int"
 |.bool _=>"bool"
 |.list _=>"list"
 |.tuple _=>"tuple"
 |.none=>"NoneType"
 |.str _=>"str"
 |.dict _=>"dict"
def Den.ty{K:ae}{H:Hp}{v:V}:∀{d:D},Den K H v d->(∀ds,d≠.tuple ds)->(∀ds,d≠.list ds)->(∀ds,d≠.dict ds)->TyOf K H v (.type (tyD d))
 |.none,h,_,_,_=>by cases h.none_inv;exact .non
 |.bool _,h,_,_,_=>by cases h.bool_inv;exact .bl _
 |.int _,h,_,_,_=>by cases h.int_inv;exact .int _
 |.str _,h,_,_,_=>by cases h.str_inv;exact .str _
 |.list ds,h,_,q,_=>absurd rfl (q ds)
 |.tuple ds,h,q,_,_=>absurd rfl (q ds)
 |.dict ds,h,_,_,q=>absurd rfl (q ds)
def c1C(K:ae)(T:String)(g:D->Bool):List V->Hp->VK->Prop:=λxs H Q=>∃x d,xs=[x,.ty T]/\Den K H x d/\Q (.bl (g d)) H
def a8B{pins:List (aw×fV)}{U:L2.St}{H:Hp}{s:au}{A:bP}{E:ak->au->Prop}{Q:ak->au->Prop}{cv:ak}{k:Bool}{a:aw}{xs:List V}(I:Inv X pins U H s)(h:SqT X.K H a xs)(e:dS X.K (.type "tuple") cv=cz k)(hq:∀tk,Q (.bool k) {s with toks:=tk}) :
  aZ (aX X.prog X.w) A (call (.builtin "isinstance") [.ref a,cv]) Q E s:=by
 obtain⟨its,_,⟨o,h1,h2,_⟩,_⟩:=I.tuple h;exact cU AH I.kIn ⟨o,h1,h2⟩ e (λz=>nomatch z) hq
def a8C{pins:List (aw×fV)}{U:L2.St}{H:Hp}{s:au}{A:bP}{E:ak->au->Prop}{Q:ak->au->Prop}{cv:ak}{k:Bool}{a:aw}{xs:List V}(I:Inv X pins U H s)(h:SqX X.K H a xs)(e:dS X.K (.type "list") cv=cz k)(hq:∀tk,Q (.bool k) {s with toks:=tk}) :
  aZ (aX X.prog X.w) A (call (.builtin "isinstance") [.ref a,cv]) Q E s:=by
 obtain⟨_,its,n,_,h1⟩:=h.ok I;exact cU om I.kIn ⟨_,h1,rfl⟩ e (λz=>nomatch z) hq
def a8D{pins:List (aw×fV)}{U:L2.St}{H:Hp}{s:au}{A:bP}{E:ak->au->Prop}{Q:ak->au->Prop}{cv:ak}{k:Bool}{a:aw}{es:List (D×V×V)}(I:Inv X pins U H s)(h:H a=cz (i9 a es))(e:dS X.K (.type "dict") cv=cz k)(hq:∀tk,Q (.bool k) {s with toks:=tk}) :
  aZ (aX X.prog X.w) A (call (.builtin "isinstance") [.ref a,cv]) Q E s:=by
 obtain⟨⟨_,_,_,o,ents,_,h1,h2,_⟩,_⟩:=(show ObjOk X.prog X.w H s.heap a (i9 a es) from I.hok a _ h);exact cU oq I.kIn ⟨o,h1,h2.1⟩ e (λz=>nomatch z) hq
def b1s{T:String}{g:D->Bool}(hf:∀(K:ae) (d:D),dS K (.type (tyD d)) (.type T)=cz (g d)):CallR X (.builtin "isinstance") (c1C X.K T g):=by
 intro pins s U H xs us Q I r h;obtain⟨x,d,rfl,hd,q⟩:=h;obtain⟨u,w',rfl,rx,ry⟩:=vals2 r;cases (show w'=fK T from ry)
 by_cases ht:(∀ds,d≠.tuple ds)/\(∀ds,d≠.list ds)/\(∀ds,d≠.dict ds)
 ·exact a4V I rx (hd.ty ht.1 ht.2.1 ht.2.2) (hf X.K d) λtk=>⟨.bl _,H,I.tok tk,rfl,q⟩
 ·cases d with
  |list ds=>
   obtain⟨a,ys,rfl,h1,_⟩:=hd.list_inv;cases (show u=bL a from rx)
   exact a8C I h1 (hf X.K (.list ds)) λtk=>⟨.bl _,H,I.tok tk,rfl,q⟩
  |tuple ds=>
   obtain⟨a,ys,rfl,h1,_⟩:=hd.tup_inv;cases (show u=bL a from rx)
   exact a8B I h1 (hf X.K (.tuple ds)) λtk=>⟨.bl _,H,I.tok tk,rfl,q⟩
  |dict ds=>
   simp only[Den]at hd;obtain⟨a,es,rfl,h1,_⟩:=hd;cases (show u=bL a from rx)
   exact a8D I h1 (hf X.K (.dict ds)) λtk=>⟨.bl _,H,I.tok tk,rfl,q⟩
  |_=>exact absurd ⟨(λds z=>by cases z),(λds z=>by cases z),(λds z=>by cases z)⟩ ht
def isInt:D->Bool
 |.int _=>yn
 |.bool _=>yn
 |_=>yH
def isBool:D->Bool
 |.bool _=>yn
 |_=>yH
def isList:D->Bool
 |.list _=>yn
 |_=>yH
def a6c:D->Bool
 |.tuple _=>yn
 |_=>yH
def a8E{g:D->Bool}(hf:∀(K:ae) (d:D),dS K (.type (tyD d)) (.type T)=cz (g d))(hm:X.mg "isinstance"=xn)(hy:X.mg y=xn)(hb:fQ y=cz (.type T))(h:PX X M a fa ca)
  (hg:Gl X "isinstance":=by rfl) (rO:Gl X y:=by rfl) (zt:y≠"__name__":=by decide) (rP:(y==("__debug__":bA))=yH:=by decide)
  (he:aq [a,.Name y py] X.env=(yH,cD a X.env)::aq [.Name y py] X.env:=by rfl) (nX:aq [.Name y py] X.env=(yH,cD (.Name y py) X.env)::aq [] X.env:=by rfl) (gn:(cy pos (aq [.Name y py] X.env)).any (·.1)=yH:=by rfl) :
  PX X M (.Call (.Name "isinstance" p) [a,.Name y py] [] pos) (e1 (λd=>cz (.bool (g d))) fa) (.new .i):=by
 obtain⟨ta,pa,qa⟩:=h.out;refine .mk ⟨_,a0Z (b1s hf) hg hm PyProof.Rows.Boot.«isinstance» (l6 pa (l6 (a9O (v:=.ty T) rO hy hb rfl zt rP) o9 nX) he) (by decide) (by decide) he gn,λZ U H P F d Q S mU q=>?_⟩;obtain⟨x,h1,mU⟩:=bnd mU;cases mU
 exact qa Z U H P F x _ S h1 λv H1 e1 r1=>⟨v,x,rfl,r1.den,q _ H1 e1 (I9 (by simp only[imm]) den_bool (S.lst' e1))⟩
def b6C(K:ae)(d:D):dS K (.type (tyD d)) (.type "int")=cz (isInt d):=by cases d<;>rfl
def b3u(K:ae)(d:D):dS K (.type (tyD d)) (.type "bool")=cz (isBool d):=by cases d<;>rfl
def b3v(K:ae)(d:D):dS K (.type (tyD d)) (.type "list")=cz (isList d):=by cases d<;>rfl
end
def cutD(ds:List D)(lo hi:Option Int):List D:=(ds.drop (HT.sIx ds.length 0 lo)).take (HT.sIx ds.length ds.length hi-HT.sIx ds.length 0 lo)
abbrev EvO:=List D->Option (Option Int)
def oNo:EvO:=λ_=>cz xn
def asI:D->Option Int
 |.int i=>cz i
 |_=>xn
def oSo(a:EvE):EvO:=λZ=>(a Z).bind λd=>(asI d).bind λi=>cz (cz i)
def X3(h:asI d=cz i):d=.int i:=by
 cases d with
 |int j=>cases h;rfl
 |_=>cases h
def asL:D->Option (List D)
 |.list ds=>cz ds
 |_=>xn
def R9(h:asL d=cz ds):d=.list ds:=by
 cases d with
 |list j=>cases h;rfl
 |_=>cases h
def asS:D->Option (List D)
 |.list ds=>cz ds
 |.tuple ds=>cz ds
 |_=>xn
def POX(X:Cx)(M:List Md)(e:Option Expr)(f:EvO):Prop:=
 ∃t,PO X e t/\∀(Z:List D) (U:L2.St) (H P:Hp) (F:List aw) (o:Option Int) (Q:Option Int->Hp->Prop),StE X.K M Z U H P F->f Z=cz o->(∀H',Same H H'->Q o H')->t U H Q
def eSl(a:EvE)(lo hi:EvO):EvE:=λZ=>(a Z).bind λx=>(asL x).bind λds=>(lo Z).bind λl=>(hi Z).bind λh=>cz (.list (cutD ds l h))
def eI(a:EvE):EvE:=λZ=>(a Z).bind b3s
section
variable {X:Cx}{M:List Md}{a b e e0:Expr}{lo hi:Option Expr}{es:List Expr}{fa fb:EvE}{fl fh:EvO}{f:EvA}{c ca cb:Cat}{u:Ty}{us:List Ty}{pos p p2:fS}{x:bA}
def b3w:POX X M xn oNo:=⟨_,b6o,λZ U H P F o Q S hf q=>by cases hf;exact q H (Same.refl _)⟩
def b3x(h:PX X M a fa ca):POX X M (cz a) (oSo fa):=by
 obtain⟨t,p,q⟩:=h.out;refine⟨_,b6p p,λZ U H P F o Q S hf k=>?_⟩;obtain⟨d,h1,rY⟩:=bnd hf;obtain⟨i,h2,rX⟩:=bnd rY;cases X3 h2
 cases rX
 exact q Z U H P F _ _ S h1 λv H1 e1 r1=>⟨i,r1.den.int_inv,k H1 e1⟩
structure MkL (X:Cx) (M:List Md) (e:Expr) (f:EvE) (A:Prop):Prop where
 run:∃t,PE X e t/\∀(Z:List D) (U:L2.St) (H P:Hp) (F:List aw) (d:D) (Q:VK),StE X.K M Z U H P F->f Z=cz d->
  (∀vs ds H1 l,Same H H1->d=.list ds->DenAll X.K H1 vs ds->(A->DenAll X.K (cut H1 F) vs ds)->H1 l=xn->Q (.ref l) (upd H1 l (.lst vs)))->t U H Q
def MkL.fz{f:EvE}(h:MkL X M e f True):PX X M e f (.new (.l .f)):=by
 obtain⟨t,p,q⟩:=h.run;refine .mk ⟨t,p,λZ U H P F d Q S hf k=>q Z U H P F d Q S hf λvs ds H1 l e1 ed _ h1 hl=>?_⟩;subst ed;exact k _ _ (e1.trans (l9 hl _)) (b1q (h1 trivial) e1 hl)
theorem MkL.i{f:EvE}{A:Prop}(h:MkL X M e f A):PX X M e (eI f) (.new (.l .i)):=by
 obtain⟨t,p,q⟩:=h.run;refine .mk ⟨t,p,λZ U H P F d Q S hf k=>?_⟩;obtain⟨d',g1,hc⟩:=bnd hf;clear hf;obtain⟨es,rfl,rfl,hi⟩:=a8A hc;refine q Z U H P F _ Q S g1 λvs ds H1 l e1 ed h1 _ hl=>?_
 cases ed
 exact k _ _ (e1.trans (l9 hl _)) (a0f h1 hi e1 hl (S.lst' e1))
def frozen:Cat->Prop
 |.new .f=>True
 |.new .i=>True
 |_=>False
def a0i(hc:frozen c)(r:ResR K c H H1 F v d):Den K (cut H1 F) v d:=by
 match c,hc with
 |.new .f,_=>
  obtain⟨fp,o,_⟩:=r;obtain⟨rfl,o⟩:=a9V o;exact o
 |.new .i,_=>
  obtain⟨fp,o,_⟩:=r;obtain⟨rfl,_,o⟩:=a2l o;exact o
def M9(r:ResR K c H H1 F v (.list ds)):∃a xs,v=.ref a/\SqX K H1 a xs/\DenAll K H1 xs ds/\(frozen c->DenAll K (cut H1 F) xs ds):=by
 by_cases hc:frozen c
 ·obtain⟨a,xs,rfl,k1,k2⟩:=(a0i hc r).list_inv;exact⟨a,xs,rfl,P9 k1 k7,k2.up k7,λ_=>k2⟩
 ·obtain⟨a,xs,rfl,k1,k2⟩:=r.den.list_inv;exact⟨a,xs,rfl,k1,k2,λh=>absurd h hc⟩
def b3y:SlR X (λx lo hi H Q=>∃a xs,x=.ref a/\SqX X.K H a xs/\∀p,H p=xn->Q (.ref p) (upd H p (.lst (a8s xs lo hi)))):=by
 rintro pins s U H x v vl vu lo hi sl Q I rx hs pl pu ⟨a,xs,e,h,q⟩;exact b6s pins s U H x v vl vu lo hi sl Q I rx hs pl pu ⟨a,xs,e,h.l,q⟩
def a9Y(h:DenAll K H vs ds)(lo hi:Option Int):DenAll K H (a8s vs lo hi) (cutD ds lo hi):=by
 unfold a8s cutD;rw[h.length];exact (h.drop _).take _
def b3z(ha:PX X M a fa ca)(hl:POX X M lo fl)(hh:POX X M hi fh):MkL X M (.Subscript a (.Slice lo hi xn p2) pos) (eSl fa fl fh) (frozen ca):=by
 obtain⟨ta,pa,qa⟩:=ha.out;obtain⟨tl,pl,ql⟩:=hl;obtain⟨th,ph,qh⟩:=hh;refine⟨_,b3g b3y pa pl ph,λZ U H P F d Q S hf q=>?_⟩;obtain⟨x,h1,rY⟩:=bnd hf;obtain⟨ds,h2,rX⟩:=bnd rY;cases R9 h2
 obtain⟨l,h3,An⟩:=bnd rX;obtain⟨h,h4,vg⟩:=bnd An;cases vg
 refine qa Z U H P F _ _ S h1 λv H1 e1 r1=>ql Z U H1 P F l _ (S.grow e1) h3 λH2 e2=>qh Z U H2 P F h _ (S.grow (e1.trans e2)) h4 λH3 e3=>?_
 obtain⟨pp,xs,rfl,k1,k2,k3⟩:=M9 (r1.up (e2.trans e3));exact⟨pp,xs,rfl,k1,λz hz=>q _ _ H3 z ((e1.trans e2).trans e3) rfl (a9Y k2 l h) (λhc=>a9Y (k3 hc) l h) hz⟩
def V6(a:EvE):EvE:=λZ=>(a Z).bind λd=>(asS d).bind λds=>cz (.list ds)
def a6d(hm:X.mg "list"=xn)(ha:PX X M a fa ca)(hg:Gl X "list":=by rfl)(he:aq [a] X.env=(yH,cD a X.env)::aq [] X.env:=by rfl)(gn:(cy pos (aq [] X.env)).any (·.1)=yH:=by rfl) :
  MkL X M (.Call (.Name "list" p) [a] [] pos) (V6 fa) (frozen ca):=by
 obtain⟨ta,pa,qa⟩:=ha.out;refine⟨_,R1 a5U hg hm PyProof.Rows.Boot.«list» (l6 pa o9 he) (by decide) (by decide) he gn,λZ U H P F d Q S hf q=>?_⟩;obtain⟨x,h1,rY⟩:=bnd hf;obtain⟨ds,h2,rX⟩:=bnd rY;cases rX
 refine qa Z U H P F _ _ S h1 λv H1 e1 r1=>?_
 cases x with
 |list es=>
  cases h2
  obtain⟨pp,xs,rfl,k1,k2,k3⟩:=M9 r1;exact⟨pp,xs,rfl,.inl k1.l,λz hz=>q _ _ H1 z e1 rfl k2 k3 hz⟩
 |tuple es=>
  cases h2
  by_cases hc:frozen ca
  ·obtain⟨pp,xs,rfl,k1,k2⟩:=(a0i hc r1).tup_inv;exact⟨pp,xs,rfl,.inr (a0J k1 k7),λz hz=>q _ _ H1 z e1 rfl (k2.up k7) (λ_=>k2) hz⟩
  ·obtain⟨pp,xs,rfl,k1,k2⟩:=r1.den.tup_inv;exact⟨pp,xs,rfl,.inr k1,λz hz=>q _ _ H1 z e1 rfl k2 (λh=>absurd h hc) hz⟩
 |_=>cases h2
def X4(a:EvE):EvE:=λZ=>(a Z).bind λd=>(asS d).bind λds=>a5Y (.tuple ds)
def a3p(hm:X.mg "tuple"=xn)(ha:PX X M a fa ca)(hg:Gl X "tuple":=by rfl)(he:aq [a] X.env=(yH,cD a X.env)::aq [] X.env:=by rfl)(gn:(cy pos (aq [] X.env)).any (·.1)=yH:=by rfl) :
  PX X M (.Call (.Name "tuple" p) [a] [] pos) (X4 fa) (.new .i):=by
 obtain⟨ta,pa,qa⟩:=ha.out;refine .mk ⟨_,R1 a4D hg hm PyProof.Rows.Boot.«tuple» (l6 pa o9 he) (by decide) (by decide) he gn,λZ U H P F d Q S hf q=>?_⟩;obtain⟨x,h1,rY⟩:=bnd hf;obtain⟨ds,h2,rX⟩:=bnd rY;obtain⟨rfl,hi⟩:=a5k rX;refine qa Z U H P F _ _ S h1 λv H1 e1 r1=>?_
 cases x with
 |list es=>
  cases h2
  obtain⟨pp,xs,rfl,k1,k2⟩:=r1.den.list_inv;exact⟨pp,xs,rfl,.inl ⟨k1.l,λz hz=>q _ _ (e1.trans (l9 hz _)) (I9 hi (a7b k2 hz) (S.lst' (e1.trans (l9 hz _))))⟩⟩
 |tuple es=>
  cases h2
  obtain⟨pp,xs,rfl,k1,k2⟩:=r1.den.tup_inv;exact⟨pp,xs,rfl,.inr ⟨k1,q _ _ e1 (I9 hi (den_tup k1 k2) (S.lst' e1))⟩⟩
 |_=>cases h2
def b6D:OpR X (gc .Add) (λx y H Q=>∃l b xs zs,x=.ref l/\y=.ref b/\SqX X.K H l xs/\SqX X.K H b zs/\xs.length+zs.length<=bg/\∀p,H p=xn->Q (.ref p) (upd H p (.lst (xs++zs)))):=by
 intro pins s U H x y v u Q I rx ry h;obtain⟨l,b,xs,zs,rfl,rfl,hH,hB,hz,q⟩:=h;cases rx
 cases ry
 obtain⟨z,its,n,r,e⟩:=hH.ok I;obtain⟨z2,oO,n2,r2,e2⟩:=hB.ok I;have hl:=r.length;have rK:=r2.length;refine PySem.P.add_list e e2 ?_ (by rw[bt,bt];lia);have ea:its.toArray++oO.toArray=(its++oO).toArray:=by simp
 rw[ea];exact⟨.ref _,_,I.lnew (t':=s.toks) (r.append r2) (by rw[az];lia),rfl,q _ I.fresh⟩
def U0(a b:EvE):EvE:=λZ=>(a Z).bind λx=>(asL x).bind λds=>(b Z).bind λy=>(asL y).bind λes=>if ds.length+es.length<=bg then cz (.list (ds++es)) else xn
def a6e(ha:PX X M a fa ca)(hb:PX X M b fb cb):MkL X M (.BinOp a .Add b pos) (U0 fa fb) (frozen ca/\frozen cb):=by
 obtain⟨ta,pa,qa⟩:=ha.out;obtain⟨tb,pb,qb⟩:=hb.out;refine⟨_,b8n b6D pa pb,λZ U H P F d Q S hf q=>?_⟩;obtain⟨x,h1,rY⟩:=bnd hf;obtain⟨ds,h2,rX⟩:=bnd rY;cases R9 h2
 obtain⟨y,h3,An⟩:=bnd rX;obtain⟨es,h4,vg⟩:=bnd An;cases R9 h4
 by_cases hz:ds.length+es.length<=bg
 ·rw[aE hz]at vg;cases vg
  refine qa Z U H P F _ _ S h1 λv H1 e1 r1=>qb Z U H1 P F _ _ (S.grow e1) h3 λw H2 e2 r2=>?_
  obtain⟨pp,xs,rfl,k1,k2,k3⟩:=M9 (r1.up e2);obtain⟨qq,ys,rfl,j1,j2,j3⟩:=M9 r2;exact⟨pp,qq,xs,ys,rfl,rfl,k1,j1,by rw[k2.length,j2.length];exact hz,λz hz=>q _ _ H2 z (e1.trans e2) rfl (k2.append j2) (λhc=>(k3 hc.1).append (j3 hc.2)) hz⟩
 ·rw[aM hz]at vg;cases vg
def spD(K:ae)(n:Nat)(m:List D->Option D)(u:Ty):Sp:=λvs H Q _=>∃ds d,vs.length=n/\DenAll K H vs ds/\m ds=cz d/\∀v H' fp,Same H H'->Own K H' fp u v d fp->fp.Nodup->(∀a∈fp,H a=xn)->Q v H'
def a6f(W:Has X.prog X.w X.K X.mg X.base x k ps (spD X.K n m u))(hr:Room k X.A)(h:PAX X M (e0::es) f)(hu:u.shut=yn:=by rfl)(hl:(e0::es).length=n:=by rfl)(hfl:∀Z ds,f Z=cz ds->ds.length=(e0::es).length)
  (hg:Gl X x:=by rfl) (lM:(x==("__debug__":bA))=yH:=by decide) (he:aq (e0::es) X.env=(yH,cD e0 X.env)::aq es X.env:=by rfl) (gn:(cy pos (aq es X.env)).any (·.1)=yH:=by rfl) :
  PX X M (.Call (.Name x p) (e0::es) [] pos) (eCl m f) (.new u):=by
 obtain⟨t,pa,qa⟩:=h;refine .mk ⟨_,a8t W hr pa hg lM he gn,λZ U H P F d Q S hf q=>?_⟩;obtain⟨ds,h1,hf⟩:=bnd hf;refine qa Z U H P F ds _ S h1 λvs H1 e1 r1=>?_
 show spD X.K n m u (vs++[]) H1 Q E0;rw[bj];refine⟨ds,d,by rw[r1.length,hfl Z ds h1,hl],r1,hf,λv H' fp e o nd fr=>q v H' (e1.trans e) ⟨fp,o.shut_out (λa ha=>?_) u hu,nd,λa ha=>e1.free (fr a ha)⟩⟩;rcases av.mp ha with z|z
 ·exact o.lst u a z
 ·exact S.lst' (e1.trans e) a z
end
structure Walks (J:It) (Pr:Hp->Prop) (xs:List V):Prop where
 go:∀i H,Pr H->i<xs.length->J.go i H
 stop:∀i H,Pr H->xs.length<=i->J.stop i H
 yld:∀i H x H',Pr H->i<xs.length->J.yld i H x H'->H'=H/\xs[i]?=cz x
def a8F:Walks (Itl K a) (λH=>SqL K H a xs) xs where
 go:=λi H h hi=>⟨xs,xs[i],h,by simp[hi]⟩
 stop:=λi H h hi=>⟨xs,h,hi⟩
 yld:=λi H x H' h _ y=>⟨y.1,y.2 xs h⟩
def a7d:Walks (Itr lo n) (λ_=>True) ((aB n).map λ(k:Nat)=>V.int (lo+k)) where
 go:=λi H h hi=>by show i<n;simpa using hi
 stop:=λi H h hi=>by show n<=i;simpa using hi
 yld:=λi H x H' h hi y=>by
  obtain⟨e,y⟩:=y;refine⟨e,?_⟩;have mT:i<n:=by simpa using hi
  rw[y];simp[mT]
def PIX(X:Cx)(M:List Md)(tg iter:Expr)(f:EvA):Prop:=
 ∃wi,PI X tg iter wi/\∀(Z:List D) (U:L2.St) (H P:Hp) (F:List aw) (ds:List D) (R:It->Hp->Prop),StE X.K M Z U H P F->f Z=cz ds->
  (∀J xs Pr H1,Same H H1->Walks J Pr xs->(∀H2,Same (cut H1 F) H2->Pr H2)->DenAll X.K (cut H1 F) xs ds->R J H1)->wi U H R
def iL(a:EvE):EvA:=λZ=>(a Z).bind asL
def l8(lo:Int)(n:Nat):List D:=(aB n).map λ(k:Nat)=>.int (lo+k)
def iR(a:EvE):EvA:=λZ=>(a Z).bind λd=>(asI d).bind λn=>if -(2^62)<=n/\n<2^62 then cz (l8 0 n.toNat) else xn
def iI(f:EvA):EvA:=λZ=>(f Z).bind λds=>if g6 ds then cz ds else xn
section
variable {X:Cx}{M:List Md}{a b e tg iter:Expr}{fa fb:EvE}{f:EvA}{ca cb:Cat}{pos p:fS}
def o6(h:PX X M a fa ca)(hc:frozen ca:=by trivial):PIX X M tg a (iL fa):=by
 obtain⟨t,p,q⟩:=h.out;refine⟨_,b6f p,λZ U H P F ds R S hf k=>?_⟩;obtain⟨d,h1,h2⟩:=bnd hf;cases R9 h2
 refine q Z U H P F _ _ S h1 λv H1 e1 r1=>?_
 obtain⟨aa,xs,rfl,k1,k2⟩:=(a0i hc r1).list_inv;exact⟨aa,rfl,⟨xs,(P9 k1 k7).l⟩,k _ xs _ H1 e1 a8F (λH2 e2=>(P9 k1 e2).l) k2⟩
def b1t:DenAll K H ((aB n).map λ(k:Nat)=>V.int (lo+k)) (l8 lo n):=by
 have:∀l:List Nat,DenAll K H (l.map λ(k:Nat)=>V.int (lo+k)) (l.map λ(k:Nat)=>aR (lo+k)):=by
  intro l
  induction l with
  |nil=>exact denAll_nil
  |cons x l ih=>exact denAll_cons den_int ih
 exact this _
def t5(hm:X.mg "range"=xn)(h:PX X M a fa ca)(hg:Gl X "range":=by rfl)(he:aq [a] X.env=[(yH,cD a X.env)]:=by rfl)(nX:aq [a] X.env=(yH,cD a X.env)::aq [] X.env:=by rfl) :
  PIX X M tg (.Call (.Name "range" p) [a] [] pos) (iR fa):=by
 obtain⟨t,p,q⟩:=h.out;refine⟨_,b1e hg hm (l6 p o9 nX) he,λZ U H P F ds R S hf k=>?_⟩;obtain⟨d,h1,g1⟩:=bnd hf;obtain⟨n,h2,g2⟩:=bnd g1;cases X3 h2
 by_cases c:-(2^62)<=n/\n<2^62
 ·rw[aE c]at g2;cases g2
  exact q Z U H P F _ _ S h1 λv H1 e1 r1=>⟨n,by rw[r1.den.int_inv],c.1,c.2,k _ _ _ H1 e1 a7d (λ_ _=>trivial) b1t⟩
 ·rw[aM c]at g2;cases g2
def PIX.i(h:PIX X M tg iter f):PIX X M tg iter (iI f):=by
 obtain⟨wi,p,q⟩:=h;refine⟨wi,p,λZ U H P F ds R S hf k=>?_⟩;obtain⟨es,h1,g1⟩:=bnd hf;by_cases c:g6 es=yn
 ·rw[aE c]at g1;cases g1
  exact q Z U H P F _ R S h1 k
 ·rw[aM c]at g1;cases g1
end
def TgR(K:ae)(g:TG)(n:Nat)(pt:D->Option (List D)):Prop:=
 ∀(H Hc:Hp) (x:V) (d:D) (ds:List D) (U:L2.St) (Q:L2.St->Hp->Prop),Same Hc H->Den K Hc x d->pt d=cz ds->n<=U.length->(∀vs,DenAll K Hc vs ds->vs.length=n->Q (vs.map cz++U.drop n) H)->g x U H Q
def pt1(d:D):Option (List D):=cz [d]
def pt2:D->Option (List D)
 |.tuple [a,b]=>cz [a,b]
 |_=>xn
def A0:TgR K (M7 0) 1 pt1:=by
 intro H Hc x d ds U Q e hd hp hn k;cases hp
 cases U with
 |nil=>simp at hn
 |cons o U=>exact k [x] (denAll_cons hd denAll_nil) rfl
def b6E:TgR K (b8R K 2 (a2Y (M7 0) (a2Y (M7 1) b6e))) 2 pt2:=by
 intro H Hc x d ds U Q e hd hp hn k
 match d,hp with
 |.tuple [a,b],hp=>
  cases hp
  obtain⟨aa,xs,rfl,h1,h2⟩:=hd.tup_inv;obtain⟨v,w,rfl,h3,h4⟩:=a0h h2
  match U,hn with
  |o::o'::U,_=>
   exact⟨aa,_,rfl,a0J h1 e,rfl,v,[w],rfl,w,[],rfl,rfl,k [v,w] (denAll_cons h3 (denAll_cons h4 denAll_nil)) rfl⟩
def V7(pt:D->Option (List D))(t:EvT)(g:EvE)(cs:List D):List D->Option (List D)
 |[]=>cz []
 |d::ds=>(pt d).bind λbs=>(t (bs++cs)).bind λk=>if k then (g (bs++cs)).bind λy=>(V7 pt t g cs ds).bind λys=>cz (y::ys) else V7 pt t g cs ds
def o8(fi:EvA)(js:List Nat)(pt:D->Option (List D))(t:EvT)(g:EvE):EvE:=λZ=>(fi Z).bind λds=>if ds.length<=1000000 then (V7 pt t g (js.map λj=>Z.getD j .none) ds).bind λys=>cz (.list ys) else xn
def tT:EvT:=λ_=>cz yn
def X5(m:Md)(n:Nat)(M:List Md)(js:List Nat):List Md:=aP n m++js.map λj=>M.getD j .dead
section
variable {K:ae}{J:It}{Pr:Hp->Prop}{xs:List V}{Dl:aw}{g:TG}{tt:TT}{te:TE}{U:L2.St}{H:Hp}{R:Hp->Prop}
def a5l(hw:Walks J Pr xs)(Pv:Nat->List V->L2.St->Hp->Prop)(h0:Pv 0 [] U (upd H Dl (.lst [])))(hp:∀i ys U H,Pv i ys U H->Pr H)
  (hs:∀i x ys U H,xs[i]?=cz x->Pv i ys U H->g x U H λU3 H3=>tt U3 H3 λb H4=>if b=yn then te U3 H4 λy H5=>H5 Dl=cz (.lst ys)/\ys.length<bg/\Pv (i+1) (ys++[y]) U3 (upd H5 Dl (.lst (ys++[y]))) else Pv (i+1) ys U3 H4)
  (hd:∀ys U H,Pv xs.length ys U H->R H) :
  ∃W:Nat->Nat->List V->L2.St->Hp->Prop,(∃m,W 0 m [] U (upd H Dl (.lst [])))/\∀i m ys U' H',W i m ys U' H'->(J.stop i H'/\R H')\/
   (J.go i H'/\∃(N:V->L2.St->Hp->Prop) (NO:L2.St->Hp->Prop),(∀y U3 H4,N y U3 H4->H4 Dl=cz (.lst ys)/\ys.length<bg/\∃m',m'<m/\W (i+1) m' (ys++[y]) U3 (upd H4 Dl (.lst (ys++[y]))))/\
    (∀U3 H4,NO U3 H4->∃m',m'<m/\W (i+1) m' ys U3 H4)/\∀x H2,J.yld i H' x H2->g x U' H2 λU3 H3=>tt U3 H3 λb H4=>if b=yn then te U3 H4 λy H5=>N y U3 H5 else NO U3 H4):=by
 refine⟨λi m ys U H=>m=xs.length-i/\i<=xs.length/\Pv i ys U H,⟨xs.length,by simp,cG _,h0⟩,?_⟩;rintro i m ys U H ⟨rfl,hi,p⟩;have q:=hp i ys U H p;by_cases jz:i<xs.length
 ·refine .inr ⟨hw.go i H q jz,λy U3 H4=>H4 Dl=cz (.lst ys)/\ys.length<bg/\Pv (i+1) (ys++[y]) U3 (upd H4 Dl (.lst (ys++[y]))),λU3 H4=>Pv (i+1) ys U3 H4,λy U3 H4 ⟨r1,r2,r3⟩=>⟨r1,r2,xs.length-(i+1),by lia,rfl,jz,r3⟩,λU3 H4 r3=>⟨xs.length-(i+1),by lia,rfl,jz,r3⟩,λx H' y=>?_⟩;obtain⟨e,yy⟩:=hw.yld i H x H' q jz y;subst e;exact hs i x ys U _ yy p
 ·have e:i=xs.length:=by lia
  subst e;exact .inl ⟨hw.stop _ H q (aA _),hd ys U H p⟩
end
def b3A{Z:List D}{js:List Nat}(S:StE K M Z U H P F)(hm:m=.i\/m=.f)(hv:DenAll K (cut H F) vs bs)(hi:m=.i->g6 bs=yn)(hn:vs.length=n)
  (hU:Ub=vs.map cz++js.map λj=>(U[j]?).getD xn):StE K (X5 (.own m) n M js) (bs++js.map λj=>Z.getD j .none) Ub H P F:=by
 obtain⟨G,h1,h3⟩:=S.all;obtain⟨G',q,hq⟩:=h1.pick h3 js;refine⟨⟨G',?_,hq⟩,S.lst,S.prot⟩;subst hU hn;unfold X5;have key:∀{vs:List V} {bs:List D},DenAll K (cut H F) vs bs->(m=.i->g6 bs=yn)->StAll K H F (aP vs.length (.own m)++js.map λj=>M.getD j .dead) (bs++js.map λj=>Z.getD j .none) (vs.map cz++js.map λj=>(U[j]?).getD xn) G':=by
  intro vs
  induction vs with
  |nil=>
   intro bs h _;have hl:=h.length;have:bs=[]:=ir.mp (by simpa using hl.symm);subst this;exact q
  |cons v vs ih=>
   intro bs h hi;cases bs with
   |nil=>have:=h.length;simp at this
   |cons b bs=>
    obtain⟨v',r,e,h4,h5⟩:=h.cons_inv;cases e
    have:=k6 (K:=K) (H:=H) (F:=F) (m:=.own m) (d:=b) (o:=cz v) (f:=[]) ⟨v,rfl,by
     rcases hm with rfl|rfl
     ·have:=hi rfl;simp only[g6,aD]at this;simp only[Own];exact⟨trivial,this.1,h4⟩
     ·simp only[Own];exact⟨trivial,h4⟩⟩ (ih h5 λe=>by have:=hi e;simp only[g6,aD]at this;exact this.2)
    simpa[jw]using this
 exact key hv hi
def a8G(h:V7 pt t g cs (d::ds)=cz rs) :
  ∃bs k,pt d=cz bs/\t (bs++cs)=cz k/\((k=yn/\∃y ys,g (bs++cs)=cz y/\V7 pt t g cs ds=cz ys/\rs=y::ys)\/(k=yH/\V7 pt t g cs ds=cz rs)):=by
 simp only[V7]at h;obtain⟨bs,h1,g1⟩:=bnd h;obtain⟨k,h2,g2⟩:=bnd g1;refine⟨bs,k,h1,h2,?_⟩;cases k with
 |true=>
  rw[aE rfl]at g2;obtain⟨y,h3,g3⟩:=bnd g2;obtain⟨ys,h4,g4⟩:=bnd g3;cases g4
  exact .inl ⟨rfl,y,ys,h3,h4,rfl⟩
 |false=>
  rw[aM cj]at g2;exact .inr ⟨rfl,g2⟩
section
variable {X:Cx}{M:List Md}{tn ys:List bA}{js:List Nat}{scope:gK}{elt tg iter:Expr}{ifs:List Expr}{pos:fS}{g:TG}{n:Nat}{pt:D->Option (List D)}{fi:EvA}{ft:EvT}{fe:EvE}{u m:Ty}
def a5m(hi:∀(Z:List D) (U:L2.St) (H P:Hp) (F:List aw) (ds:List D) (R:It->Hp->Prop),StE X.K M Z U H P F->fi Z=cz ds->
   (∀J xs Pr H1,Same H H1->Walks J Pr xs->(∀H2,Same (cut H1 F) H2->Pr H2)->DenAll X.K (cut H1 F) xs ds->R J H1)->wi U H R)
  (hg:TgR X.K g n pt) (hm:m=.i\/m=.f) (sH:m=.i->∀Z ds,fi Z=cz ds->∀d∈ds,∀bs,pt d=cz bs->g6 bs=yn) (vR:tn.length=n)
  {Z:List D} (S:StE X.K M Z U H P F) (hf:o8 fi js pt ft fe Z=cz d) (q:∀v H',Same H H'->ResR X.K (.new (.l u)) H H' F v d->Q v H') :
  a5W wi g (spT X.K (X5 (.own m) n M js) ft) (spE X.K (X5 (.own m) n M js) fe (.new u)) (a1x tn js) U H Q:=by
 obtain⟨ds,h1,g1⟩:=bnd hf;by_cases hz:ds.length<=1000000
 ·rw[aE hz]at g1;obtain⟨res,h2,g2⟩:=bnd g1;cases g2
  refine hi Z U H P F ds _ S h1 λJ xs Pr H1 e1 hw rJ hx Dl hD=>?_
  have pE:=hx.length;have Aj:Dl∉F:=λz=>by obtain⟨zs,w⟩:=S.lst' e1 Dl z;rw[hD]at w;cases w
  refine a5l hw (λi ys U' H'=>(∃os:L2.St,os.length=n/\U'=os++js.map λj=>(U[j]?).getD xn)/\H' Dl=cz (.lst ys)/\Same H1 H'/\∃(fp:List aw) (zs rs:List D),ListAll (Own X.K H' (Dl::fp++F) u) ys zs fp/\fp.Nodup/\(∀a∈fp,H1 a=xn)/\Dl∉fp/\
    V7 pt ft fe (js.map λj=>Z.getD j .none) (ds.drop i)=cz rs/\res=zs++rs/\ys.length<=i) ?_ ?_ ?_ ?_
  ·exact⟨⟨_,by rw[gy];exact vR,rfl⟩,i6,l9 hD _,[],[],res,p7,bH,λa ha=>(nomatch ha),λh=>(nomatch h),h2,rfl,aA _⟩
  ·rintro i ys U' H' ⟨_,_,e,_⟩;exact rJ H' (k7.trans e)
  ·rintro i x ys U' H' qI ⟨⟨os,ho,rfl⟩,vf,e2,fp,zs,rs,jk,pW,nM,qS,hc,qK,yU⟩;obtain⟨d,rQ,_⟩:=hx.getV qI;have nu:i<ds.length:=(aO.mp rQ).1;have nY:ds.drop i=d::ds.drop (i+1):=by
    rw[dP nu]
    congr 1;exact (aO.mp rQ).2
   rw[nY]at hc;obtain⟨bs,k,sI,jX,DH⟩:=a8G hc;have hfl:∀a∈Dl::fp,∃zs:MuO,H' a=cz zs.1:=λa ha=>by
    rcases aG.mp ha with z|z
    ·subst z;exact⟨⟨.lst ys,trivial⟩,vf⟩
    ·exact jk.lst (u:=u) (λv d f q=>q.lst u) a z
   have oS:∀a∈Dl::fp,H1 a=xn:=λa ha=>by
    rcases aG.mp ha with z|z
    ·subst z;exact hD
    ·exact nM a z
   have S1:StE X.K M Z U H' P (Dl::fp++F):=(S.grow e1).more (fp:=Dl::fp) e2 oS hfl;have zX:DenAll X.K (cut H' (Dl::fp++F)) xs ds:=hx.up (a1b (fp:=Dl::fp) e2 oS);obtain⟨d',wI,sO⟩:=zX.getV qI;rw[rQ]at wI;cases wI
   refine hg H' _ x d bs _ _ k7 sO sI (by rw[az,ho];lia) λvs oE yX=>?_
   rw[pN (by lia),List.drop_of_length_le (by lia),bM];have SB:StE X.K (X5 (.own m) n M js) (bs++js.map λj=>Z.getD j .none) (vs.map cz++js.map λj=>(U[j]?).getD xn) H' P (Dl::fp++F):=
    b3A S1 hm oE (λe=>sH e Z ds h1 d (bw rQ) bs sI) yX rfl
   refine⟨_,P,_,k,SB,jX,λH3 e3=>?_⟩;rcases DH with⟨rfl,y,rest,DG,zk,rfl⟩|⟨rfl,zk⟩
   ·refine a3f ⟨_,P,_,y,SB.grow e3,DG,λv H4 e4 ⟨gp,o,nd,fr⟩=>?_⟩;have yi:=e3.trans e4;have BD:Dl∉gp:=λz=>by have w:=fr Dl z;rw[e3 _ _ vf]at w;cases w
    have En:∀a∈gp,a∉fp:=λa ha z=>by
     obtain⟨zs,w⟩:=hfl a (ax _ z);have w2:=fr a ha;rw[e3 _ _ w]at w2;cases w2
    have mD:∀a,a∈Dl::(fp++gp)++F->a∈gp++(Dl::fp++F):=λa ha=>by
     simp only[bG,aG,av]at ha ⊢;rcases ha with z|(z|z)|z
     ·exact .inr (.inl z)
     ·exact .inr (.inr (.inl z))
     ·exact .inl z
     ·exact .inr (.inr (.inr z))
    have zZ:Same (cut H' (Dl::fp++F)) (cut (upd H4 Dl (.lst (ys++[v]))) (Dl::(fp++gp)++F)):=λa o' ha=>by
     obtain⟨n1,n2⟩:=m8 ha;have jg:a≠Dl:=λz=>n1 (by rw[z];exact ao _ aN)
     refine j7 (λz=>?_) (by rw[c9 jg];exact yi _ _ n2);rcases av.mp (mD a z) with w|w
     ·have:=fr a w;rw[e3 _ _ n2]at this;cases this
     ·exact n1 w
    have EG:Same (cut H4 (gp++(Dl::fp++F))) (cut (upd H4 Dl (.lst (ys++[v]))) (Dl::(fp++gp)++F)):=λa o' ha=>by
     obtain⟨n1,n2⟩:=m8 ha;have jg:a≠Dl:=λz=>n1 (by rw[z];exact ai _ (ao _ aN))
     exact j7 (λz=>n1 (mD a z)) (by rw[c9 jg];exact n2)
    refine⟨yi _ _ vf,?_,⟨_,by rw[aj];exact yX,rfl⟩,i6,?_,fp++gp,zs++[y],rest,?_,?_,?_,?_,zk,by rw[qK,aV];rfl,by rw[az];simp;lia⟩
    ·exact ij (cR yU (cR (fg nu) hz)) (by rw[cY];decide)
    ·exact b3i (e2.trans yi) hD _
    ·refine (n9 zZ jk λa ha=>?_).append ?_
     ·rw[c9 (show a≠Dl from λz=>qS (z▸ha))];obtain⟨zs,w⟩:=hfl a (ax _ ha);rw[w,yi _ _ w]
     ·have:=m9 (R:=Own X.K (upd H4 Dl (.lst (ys++[v]))) (Dl::(fp++gp)++F) u) (o.frame EG u λa ha=>c9 (λz=>BD (z▸ha))) p7
      rwa[bj]at this
    ·rw[bR];exact⟨pW,nd,λa ha b hb e=>En b hb (e▸ha)⟩
    ·intro a ha;rcases av.mp ha with z|z
     ·exact nM a z
     ·exact (e2.trans e3).free (fr a z)
    ·intro z;rcases av.mp z with w|w
     ·exact qS w
     ·exact BD w
   ·refine a4E ?_;have zZ:Same (cut H' (Dl::fp++F)) (cut H3 (Dl::fp++F)):=O1 e3;refine⟨⟨_,by rw[aj];exact yX,rfl⟩,e3 _ _ vf,e2.trans e3,fp,zs,rs,n9 zZ jk λa ha=>?_,pW,nM,qS,zk,qK,by lia⟩;obtain⟨zs,w⟩:=hfl a (ax _ ha);rw[w,e3 _ _ w]
  ·rintro ys U' H' ⟨_,vf,e2,fp,zs,rs,jk,pW,nM,qS,hc,qK,_⟩;rw[pE,iY]at hc;cases hc
   rw[bj]at qK;subst qK;refine q (.ref Dl) H' (e1.trans e2) ⟨Dl::fp,?_,bY.mpr ⟨qS,pW⟩,λa ha=>?_⟩
   ·simp only[Own];exact .inr ⟨Dl,ys,res,fp,rfl,vf,rfl,rfl,jk⟩
   ·rcases aG.mp ha with z|z
    ·subst z;exact e1.free hD
    ·exact e1.free (nM a z)
 ·rw[aM hz]at g1;cases g1
def B8(hc:X.calm=yn)(hi:PIX X M tg iter fi)(C:T7 scope X.env.kindOf ys js X.N=yn)(hg:∀cl Cl s H fp,PG (K6 X (tn++ys) scope cl Cl s H fp) tg g)(zM:TgR X.K g n pt)(hm:m=.i\/m=.f)
  (sH:m=.i->∀Z ds,fi Z=cz ds->∀d∈ds,∀bs,pt d=cz bs->g6 bs=yn) (vR:tn.length=n)
  (ht:∀cl Cl s H fp,PTs (K6 X (tn++ys) scope cl Cl s H fp) ifs (spT X.K (X5 (.own m) n M js) ft)) (he:∀cl Cl s H fp,PX (K6 X (tn++ys) scope cl Cl s H fp) (X5 (.own m) n M js) elt fe (.new u))
  (hs:∀x,eK iter X.env x=pure x:=by intro _;rfl):PX X M (.ListComp elt [⟨tg,iter,ifs,0⟩] scope pos) (o8 fi js pt ft fe) (.new (.l u)):=by
 obtain⟨wi,pi,qi⟩:=hi;exact .mk ⟨_,a6V (te:=spE X.K (X5 (.own m) n M js) fe (.new u)) hc pi C hg ht he hs,λZ U H P F d Q S hf q=>a5m qi zM hm sH vR S hf q⟩
def x4:∀{X':Cx} {M':List Md},PTs X' [] (spT X'.K M' tT):=λ{X' M'} pins s U H Q I ⟨Z,P,F,b,S,hb,q⟩=>by
 cases hb
 exact a9T pins s U H Q I (q H (Same.refl _))
def a7e:(Ty.f=Ty.i)->∀(Z ds:List D),fi Z=cz ds->∀d∈ds,∀bs,pt d=cz bs->g6 bs=yn:=λh=>nomatch h
def a5n:(Ty.i=Ty.i)->∀(Z ds:List D),iI fi Z=cz ds->∀d∈ds,∀bs,pt1 d=cz bs->g6 bs=yn:=λ_ Z ds h d hd bs hb=>by
 obtain⟨es,_,g1⟩:=bnd h;by_cases c:g6 es=yn
 ·rw[aE c]at g1;cases g1
  cases hb
  simp only[g6,gu];exact J7 c hd
 ·rw[aM c]at g1;cases g1
def c1D:(Ty.i=Ty.i)->∀(Z ds:List D),iI fi Z=cz ds->∀d∈ds,∀bs,pt2 d=cz bs->g6 bs=yn:=λ_ Z ds h d hd bs hb=>by
 obtain⟨es,_,g1⟩:=bnd h;by_cases c:g6 es=yn
 ·rw[aE c]at g1;cases g1
  have:=J7 c hd
  match d,hb with
  |.tuple [a,b],hb=>
   cases hb
   simpa only [imm]using this
 ·rw[aM c]at g1;cases g1
def a6g(lo:Int)(n:Nat):g6 (l8 lo n)=yn:=by
 have:∀l:List Nat,g6 (l.map λ(k:Nat)=>aR (lo+k))=yn:=by
  intro l
  induction l with
  |nil=>simp only[cW,g6]
  |cons x l ih=>simp only[ay,g6,imm,ih,eN]
 exact this _
def a7f:(Ty.i=Ty.i)->∀(Z ds:List D),iR fa Z=cz ds->∀d∈ds,∀bs,pt1 d=cz bs->g6 bs=yn:=λ_ Z ds h d hd bs hb=>by
 obtain⟨x,h1,g1⟩:=bnd h;obtain⟨k,h2,g2⟩:=bnd g1
 split at g2
 ·cases g2
  cases hb
  simp only[g6,gu];exact J7 (a6g _ _) hd
 ·cases g2
end
section
variable {K:ae}{H H' P:Hp}{F F':List aw}
theorem StAll.split:∀{A B:List Md} {Z:List D} {U:L2.St} {G:List aw},StAll K H F (A++B) Z U G->∃Z1 Z2 U1 U2 G1 G2,Z=Z1++Z2/\U=U1++U2/\G=G1++G2/\StAll K H F A Z1 U1 G1/\StAll K H F B Z2 U2 G2
 |[],B,Z,U,G,h=>⟨[],Z,[],U,[],G,rfl,rfl,rfl,R8,h⟩
 |m::A,B,_,_,_,h=>by
  simp only[bG,StAll]at h;obtain⟨d,Z,o,U,f,g,rfl,rfl,rfl,h1,h2⟩:=h;obtain⟨Z1,Z2,U1,U2,G1,G2,rfl,rfl,rfl,h3,h4⟩:=StAll.split h2;exact⟨d::Z1,Z2,o::U1,U2,f++G1,G2,rfl,rfl,by rw[aV],k6 h1 h3,h4⟩
theorem StAll.join:∀{A B:List Md} {Z1 Z2:List D} {U1 U2:L2.St} {G1 G2:List aw},StAll K H F A Z1 U1 G1->StAll K H F B Z2 U2 G2->StAll K H F (A++B) (Z1++Z2) (U1++U2) (G1++G2)
 |[],B,_,_,_,_,_,_,h,q=>by
  simp only[StAll]at h;obtain⟨rfl,rfl,rfl⟩:=h;exact q
 |m::A,B,_,_,_,_,_,_,h,q=>by
  simp only[StAll]at h;obtain⟨d,Z,o,U,f,g,rfl,rfl,rfl,h1,h2⟩:=h;rw[aV];exact k6 h1 (StAll.join h2 q)
def a7g{α:Type}{a b c d:List α}(h:a++b=c++d)(hl:a.length=c.length):a=c/\b=d:=List.append_inj h hl
def StAll.splitAt{A B:List Md}{Z1 Z2:List D}{U1 U2:L2.St}(h:StAll K H F (A++B) (Z1++Z2) (U1++U2) G)(hZ:Z1.length=A.length)(hU:U1.length=A.length):∃G1 G2,G=G1++G2/\StAll K H F A Z1 U1 G1/\StAll K H F B Z2 U2 G2:=by
 obtain⟨r1,r2,s1,s2,G1,G2,e1,e2,e3,h1,h2⟩:=h.split;obtain⟨l1,l2⟩:=h1.len;obtain⟨rfl,rfl⟩:=a7g e1 (by lia);obtain⟨rfl,rfl⟩:=a7g e2 (by lia);exact⟨G1,G2,e3,h1,h2⟩
theorem X6:∀{us:List Ty} {vs:List V} {ds:List D} {G:List aw},StAll K H F (us.map Md.own) ds (vs.map cz) G->OwnTs K H F us vs ds G
 |[],vs,ds,G,h=>by
  simp only[cW,StAll]at h;obtain⟨rfl,e,rfl⟩:=h;have:vs=[]:=by simpa using e
  subst this;simp only[OwnTs];exact⟨trivial,trivial,trivial⟩
 |u::us,vs,ds,G,h=>by
  simp only[ay,StAll]at h;obtain⟨d,Z,o,U,f,g,rfl,e,rfl,⟨v,rfl,h1⟩,h2⟩:=h;cases vs with
  |nil=>simp at e
  |cons v' vs=>
   simp only[ay,gk,ou]at e;obtain⟨rfl,rfl⟩:=e;simp only[OwnTs];exact⟨v',vs,d,Z,f,g,rfl,rfl,rfl,h1,X6 h2⟩
end
def Pend(K:ae)(Mp:List Md)(Zp:List D)(Up:L2.St)(M:List Md)(Z:List D)(U:L2.St)(H P:Hp)(F:List aw):Prop:=
 Zp.length=Mp.length/\Up.length=Mp.length/\StR K (Mp++M) (Zp++Z) (Up++U) H P F
section
variable {K:ae}{Mp M:List Md}{Zp Z:List D}{Up U:L2.St}{H H' P:Hp}{F:List aw}
def Pend.e(h:Pend K Mp Zp Up M Z U H P F):StE K M Z U H P F:=by
 obtain⟨l1,l2,S⟩:=h;obtain⟨G,h1,h2,h3⟩:=S.all;obtain⟨G1,G2,rfl,_,h4⟩:=h1.splitAt l1 l2;exact⟨⟨G2,h4,λa ha=>h3 a (ai _ ha)⟩,S.lst,S.prot⟩
theorem Pend.grow(h:Pend K Mp Zp Up M Z U H P F)(e:Same H H'):Pend K Mp Zp Up M Z U H' P F:=⟨h.1,h.2.1,h.2.2.grow e⟩
def Pend.new(h:Pend K Mp Zp Up M Z U H P F)(e:Same H H')(o:Own K H' (fp++F) u v d fp)(nd:fp.Nodup)(fr:∀a∈fp,H a=xn):Pend K (Mp++[.own u]) (Zp++[d]) (Up++[cz v]) M Z U H' P (fp++F):=by
 obtain⟨l1,l2,S⟩:=h;refine⟨by simp[l1],by simp[l2],?_⟩;have S1:=S.more e fr (o.lst u);obtain⟨G,h1,h2,h3⟩:=S.all;obtain⟨G1,G2,rfl,h4,h5⟩:=h1.splitAt l1 l2;have hc:Same (cut H F) (cut H' (fp++F)):=a1b e fr;have k:∀a∈G1++G2,H' a=H a:=λa ha=>S.toE.keep e a (h3 a ha)
 have q:=(h4.frame hc λa ha=>k a (ao _ ha)).join ((k6 (m:=.own u) (d:=d) (o:=cz v) (f:=fp) ⟨v,rfl,o⟩ (h5.frame hc λa ha=>k a (ai _ ha))));refine⟨⟨G1++(fp++G2),by simpa using q,a1A h2 nd λa ha z=>?_,λa ha=>?_⟩,S1.lst,S1.prot⟩
 ·obtain⟨ys,w⟩:=S.lst a (h3 a z);rw[fr a ha]at w;cases w
 ·rcases a5X ha with z|z
  ·exact ao _ z
  ·exact ai _ (h3 a z)
def Pend.move(h:Pend K Mp Zp Up M Z U H P F)(hm:M[i]?=cz (.own u)):∃v,U[i]?=cz (cz v)/\Pend K (Mp++[.own u]) (Zp++[Z.getD i .none]) (Up++[cz v]) (M.set i .dead) Z U H P F:=by
 obtain⟨l1,l2,S⟩:=h;obtain⟨G,h1,h2,h3⟩:=S.all;obtain⟨G1,G2,rfl,h4,h5⟩:=h1.splitAt l1 l2;obtain⟨d,o,f,pre,post,e1,e2,⟨v,rfl,e3⟩,rfl,e5⟩:=h5.at_ hm;have q:=e5 H F .dead d (cz v) [] (λ_ _=>rfl) (Same.refl _) rfl;rw[set_same e1,set_same e2]at q;refine⟨v,e2,by simp[l1],by simp[l2],⟨⟨G1++(f++(pre++([]++post))),?_,?_,λa ha=>h3 a ?_⟩,S.lst,S.prot⟩⟩
 ·have:=h4.join (k6 (m:=.own u) (d:=d) (o:=cz v) (f:=f) ⟨v,rfl,e3⟩ q);rw[B7 e1];simpa using this
 ·rw[bM];refine (List.Perm.nodup_iff ?_).mp h2;refine lP G1 ?_;exact List.perm_append_comm_assoc pre f post
 ·simp only[av,bM]at ha ⊢;rcases ha with z|z|z|z
  ·exact .inl z
  ·exact .inr (.inr (.inl z))
  ·exact .inr (.inl z)
  ·exact .inr (.inr (.inr z))
end
def PMX(X:Cx)(M:List Md)(e:Expr)(f:EvE)(u:Ty)(M1:List Md):Prop:=
 ∃t,PE X e t/\∀(Mp:List Md) (Zp:List D) (Up:L2.St) (Z:List D) (U:L2.St) (H P:Hp) (F:List aw) (d:D) (Q:VK),Pend X.K Mp Zp Up M Z U H P F->f Z=cz d->
  (∀v H' F',Same H H'->Pend X.K (Mp++[.own u]) (Zp++[d]) (Up++[cz v]) M1 Z U H' P F'->Q v H')->t U H Q
def PMA(X:Cx)(M:List Md)(es:List Expr)(f:EvA)(us:List Ty)(M1:List Md):Prop:=
 ∃t,PA X es t/\∀(Mp:List Md) (Zp:List D) (Up:L2.St) (Z:List D) (U:L2.St) (H P:Hp) (F:List aw) (ds:List D) (Q:List V->Hp->Prop),Pend X.K Mp Zp Up M Z U H P F->f Z=cz ds->
  (∀vs H' F',vs.length=us.length->ds.length=us.length->Same H H'->Pend X.K (Mp++us.map .own) (Zp++ds) (Up++vs.map cz) M1 Z U H' P F'->Q vs H')->t U H Q
section
variable {X:Cx}{M M1 M2:List Md}{e:Expr}{es:List Expr}{f:EvE}{fa:EvA}{u:Ty}{us:List Ty}{pos:fS}
def a9(h:PX X M e f (.new u)):PMX X M e f u M:=by
 obtain⟨t,p,q⟩:=h.out;refine⟨t,p,λMp Zp Up Z U H P F d Q S hf k=>q Z U H P F d Q S.e hf λv H' e ⟨fp,o,nd,fr⟩=>k v H' _ e (S.new e o nd fr)⟩
def D5(i:Nat)(hN:X.N[i]?=cz x:=by rfl)(hv:autoParam (NmV X x) ZY._auto_1)(hm:M[i]?=cz (.own u):=by rfl):PMX X M (.Name x pos) (a6 i) u (M.set i .dead):=by
 refine⟨_,A5 hN hv.1 hv.2.1 hv.2.2,λMp Zp Up Z U H P F d Q S hf k=>?_⟩;cases hf
 obtain⟨v,e,S'⟩:=S.move hm;exact⟨v,e,k v H F (Same.refl _) S'⟩
def b6F:PMA X M [] b9 [] M:=⟨_,o9,λMp Zp Up Z U H P F ds Q S hf k=>by
 cases hf
 exact k [] H F rfl rfl (Same.refl _) (by simpa using S)⟩
def a7h(h:PMX X M e f u M1)(hr:PMA X M1 es fa us M2)(hs:aq (e::es) X.env=(yH,cD e X.env)::aq es X.env:=by rfl):PMA X M (e::es) (a7 f fa) (u::us) M2:=by
 obtain⟨t,p,q⟩:=h;obtain⟨tr,pr,qr⟩:=hr;refine⟨_,l6 p pr hs,λMp Zp Up Z U H P F ds Q S hf k=>?_⟩;obtain⟨x,h1,g1⟩:=bnd hf;obtain⟨xs,h2,g2⟩:=bnd g1;cases g2
 refine q Mp Zp Up Z U H P F x _ S h1 λv H1 F1 e1 S1=>qr _ _ _ Z U H1 P F1 xs _ S1 h2 λvs H2 F2 l1 l2 e2 S2=>k (v::vs) H2 F2 (by simp[l1]) (by simp[l2]) (e1.trans e2) ?_
 simpa using S2
def Pend.pack{Zp Z:List D}{us:List Ty}{vs:List V}(h:Pend K (Mp++us.map .own) (Zp++ds) (Up++vs.map cz) M Z U H P F)
  (lp:Zp.length=Mp.length) (lq:Up.length=Mp.length) (l1:vs.length=us.length) (l2:ds.length=us.length) (hp:H p=xn)
  (mk:∀G,OwnTs K H F us vs ds G->G.Nodup->(∀a∈G,a∈F)->∃sU F',(∀a,a∈F'↔a∈sU\/a∈F)/\(∀a∈sU,a=p\/a∈G)/\sU.Nodup/\Own K (upd H p o) F' u (.ref p) d sU/\(p∈sU->∃ys,o=.lst ys)) :
  ∃F',Pend K (Mp++[.own u]) (Zp++[d]) (Up++[cz (.ref p)]) M Z U (upd H p o) P F':=by
 obtain⟨_,_,S⟩:=h;obtain⟨G,h1,h2,h3⟩:=S.all;obtain⟨G1,G2,rfl,h4,h5⟩:=h1.splitAt (by simp[lp,l2]) (by simp[lq,l1]);obtain⟨G3,G4,rfl,h6,h7⟩:=h4.splitAt lp lq;have DO:G4.Nodup:=by rw[bR]at h2;exact (bR.mp h2.1).2.1
 obtain⟨sU,F',ve,zP,pW,own,gn⟩:=mk G4 (X6 h7) DO λa ha=>h3 a (ao _ (ai _ ha))
 have zj:p∉F:=λz=>by obtain⟨ys,w⟩:=S.lst p z;rw[hp]at w;cases w
 have hc:Same (cut H F) (cut (upd H p o) F'):=λa o' ha=>by
  obtain⟨n1,n2⟩:=m8 ha;have jg:a≠p:=λz=>by rw[z,hp]at n2;cases n2
  refine j7 (λz=>?_) (by rw[c9 jg];exact n2);rcases (ve a).mp z with w|w
  ·rcases zP a w with y|y
   ·exact jg y
   ·exact n1 (h3 a (ao _ (ai _ y)))
  ·exact n1 w
 have k:∀a∈F,upd H p o a=H a:=λa ha=>c9 λz=>zj (z▸ha)
 have q:=(h6.frame hc λa ha=>k a (h3 a (ao _ (ao _ ha)))).join (k6 (m:=.own u) (d:=d) (o:=cz (.ref p)) (f:=sU) ⟨_,rfl,own⟩ (h5.frame hc λa ha=>k a (h3 a (ai _ ha))));refine⟨F',by simp[lp],by simp[lq],⟨⟨G3++(sU++G2),by simpa using q,a1A ?_ pW λa ha z=>?_,λa ha=>?_⟩,λa ha=>?_,S.prot.trans hc⟩⟩
 ·rw[aV]at h2;exact N7 h2
 ·rcases zP a ha with w|w
  ·subst w;exact zj (h3 a (by
    rcases av.mp z with y|y
    ·exact ao _ (ao _ y)
    ·exact ai _ y))
  ·rw[aV]at h2;exact a1B h2 a w z
 ·rcases a5X ha with z|z
  ·exact (ve a).mpr (.inl z)
  ·refine (ve a).mpr (.inr (h3 a ?_));rcases av.mp z with y|y
   ·exact ao _ (ao _ y)
   ·exact ai _ y
 ·rcases (ve a).mp ha with z|z
  ·rcases zP a z with w|w
   ·subst w;obtain⟨ys,rfl⟩:=gn z;exact⟨⟨.lst ys,trivial⟩,i6⟩
   ·have ma:=h3 a (ao _ (ai _ w));obtain⟨ys,y⟩:=S.lst a ma;exact⟨ys,by rw[k a ma];exact y⟩
  ·obtain⟨ys,y⟩:=S.lst a z;exact⟨ys,by rw[k a z];exact y⟩
def b6G{j}(h:PMA X M es fa us M1)(hn:us.length<=1000:=by decide):PMX X M (.Tuple es j pos) (T8 fa) (.tp us) M1:=by
 obtain⟨t,p,q⟩:=h;refine⟨_,a8p p,λMp Zp Up Z U H P F d Q S hf k=>?_⟩;obtain⟨ds,h1,g1⟩:=bnd hf;cases g1
 refine q Mp Zp Up Z U H P F ds _ S h1 λvs H1 F1 l1 l2 e1 S1=>⟨by rw[l1];exact fg (a0c hn),λx hx=>?_⟩
 have yV:x∉F1:=λz=>by obtain⟨ys,w⟩:=S1.2.2.lst x z;rw[hx]at w;cases w
 obtain⟨F2,S2⟩:=S1.pack (o:=.tup vs) (u:=.tp us) (d:=.tuple ds) S.1 S.2.1 l1 l2 hx λG o nd sub=>by
  refine⟨G,F1,λa=>⟨λz=>.inr z,λz=>z.elim (sub a) id⟩,λa ha=>.inr ha,nd,?_,λz=>absurd (sub x z) yV⟩;simp only[Own];refine .inr ⟨x,vs,ds,rfl,i6,yV,rfl,o.frame (O1 (l9 hx _)) us λa ha=>c9 λz=>yV (z▸sub a ha)⟩
 exact k _ _ F2 (e1.trans (l9 hx _)) S2
end
def dAt:Ty->D->List Nat->Option (Ty×D)
 |u,d,[]=>cz (u,d)
 |.l u,.list ds,j::p=>(ds[j]?).bind λd=>dAt u d p
 |.tp us,.tuple ds,j::p=>(us[j]?).bind λu=>(ds[j]?).bind λd=>dAt u d p
 |_,_,_=>xn
def a3q:D->List Nat->D->D
 |_,[],e=>e
 |.list ds,j::p,e=>.list (ds.set j (a3q (ds.getD j .none) p e))
 |.tuple ds,j::p,e=>.tuple (ds.set j (a3q (ds.getD j .none) p e))
 |d,_,_=>d
def wk(H:Hp):V->List Nat->V->Prop
 |v,[],w=>w=v
 |v,j::p,w=>∃a xs v1,v=.ref a/\(H a=cz (.lst xs)\/H a=cz (.tup xs))/\xs[j]?=cz v1/\wk H v1 p w
theorem b8r(e:Same H H'):∀{p:List Nat} {v w:V},wk H v p w->wk H' v p w
 |[],_,_,h=>h
 |j::p,_,_,h=>by
  obtain⟨a,xs,v1,h1,h2,h3,h4⟩:=h;exact⟨a,xs,v1,h1,h2.imp (e _ _) (e _ _),h3,b8r e h4⟩
section
variable {K:ae}{H H':Hp}{F F':List aw}
theorem ListAll.zip:∀{ds:List D} {xs:List V} {fp:List aw} {j:Nat} {d:D},ListAll (Own K H F u) xs ds fp->ds[j]?=cz d->
  ∃v f pre post,xs[j]?=cz v/\Own K H F u v d f/\fp=pre++(f++post)/\
   ∀(H':Hp) (F':List aw) (v':V) (d':D) (f':List aw),(∀a∈pre++post,H' a=H a)->Same (cut H F) (cut H' F')->Own K H' F' u v' d' f'->ListAll (Own K H' F' u) (xs.set j v') (ds.set j d') (pre++(f'++post))
 |[],_,_,j,d,_,e=>by simp at e
 |d0::ds,_,_,0,d,h,e=>by
  obtain⟨v,r,f,g,rfl,rfl,h1,h2⟩:=h.cons_inv;have:d0=d:=by simpa using e
  subst this;refine⟨v,f,[],g,rfl,h1,rfl,λH' F' v' d' f' k e' o=>?_⟩;show ListAll (Own K H' F' u) (v'::r) (d'::ds) (f'++g);exact m9 o (n9 e' h2 k)
 |d0::ds,_,_,j+1,d,h,e=>by
  obtain⟨v,r,f,g,rfl,rfl,h1,h2⟩:=h.cons_inv;obtain⟨w,f',pre,post,e1,e2,e3,e4⟩:=ListAll.zip (j:=j) h2 (by simpa using e);subst e3;refine⟨w,f',f++pre,post,by simpa using e1,e2,by rw[aV],λH' F' v' d' g' k e' o=>?_⟩;rw[aV];refine m9 (h1.frame e' u λa ha=>k a ?_) (e4 H' F' v' d' g' (λa ha=>k a ?_) e' o)
  ·rw[aV];exact ao _ ha
  ·rw[aV];exact ai _ ha
theorem OwnTs.zip:∀{us:List Ty} {ds:List D} {xs:List V} {fp:List aw} {j:Nat} {u:Ty} {d:D},OwnTs K H F us xs ds fp->us[j]?=cz u->ds[j]?=cz d->
  ∃v f pre post,xs[j]?=cz v/\Own K H F u v d f/\fp=pre++(f++post)/\
   ∀(H':Hp) (F':List aw) (d':D) (f':List aw),(∀a∈pre++post,H' a=H a)->Same (cut H F) (cut H' F')->Own K H' F' u v d' f'->OwnTs K H' F' us xs (ds.set j d') (pre++(f'++post))
 |[],_,_,_,j,u,d,_,e,_=>by simp at e
 |u0::us,_,_,_,0,u,d,h,e,e'=>by
  simp only[OwnTs]at h;obtain⟨v,r,d0,ds,f,g,rfl,rfl,rfl,h1,h2⟩:=h;have:u0=u:=by simpa using e
  subst this;have:d0=d:=by simpa using e'
  subst this;refine⟨v,f,[],g,rfl,h1,rfl,λH' F' d' f' k e' o=>?_⟩;show OwnTs K H' F' (u0::us) (v::r) (d'::ds) (f'++g);simp only[OwnTs];exact⟨v,r,d',ds,f',g,rfl,rfl,rfl,o,h2.frame e' us k⟩
 |u0::us,_,_,_,j+1,u,d,h,e,e'=>by
  simp only[OwnTs]at h;obtain⟨v,r,d0,ds,f,g,rfl,rfl,rfl,h1,h2⟩:=h;obtain⟨w,f',pre,post,e1,e2,e3,e4⟩:=OwnTs.zip (j:=j) h2 (by simpa using e) (by simpa using e');subst e3;refine⟨w,f',f++pre,post,by simpa using e1,e2,by rw[aV],λH' F' d' g' k e' o=>?_⟩;rw[aV];show OwnTs K H' F' (u0::us) (v::r) (d0::ds.set j d') (f++(pre++(g'++post)));simp only[OwnTs];refine⟨v,r,d0,_,f,_,rfl,rfl,rfl,h1.frame e' u0 λa ha=>k a ?_,e4 H' F' d' g' (λa ha=>k a ?_) e' o⟩
  ·rw[aV];exact ao _ ha
  ·rw[aV];exact ai _ ha
theorem Own.path:∀(p:List Nat) {u t:Ty} {v w:V} {d:D} {fp:List aw} {ds:List D},Own K H F u v d fp->dAt u d p=cz (.l t,.list ds)->wk H v p w->
  ∃b xs fs pre post,w=.ref b/\H b=cz (.lst xs)/\fp=pre++((b::fs)++post)/\ListAll (Own K H F t) xs ds fs/\
   ∀(H':Hp) (F':List aw) (kN:List V) (jU:List D) (jK:List aw),(∀a∈pre++post,H' a=H a)->Same (cut H F) (cut H' F')->H' b=cz (.lst kN)->ListAll (Own K H' F' t) kN jU jK->
    Own K H' F' u v (a3q d p (.list jU)) (pre++((b::jK)++post))
 |[],u,t,v,w,d,fp,ds,h,hd,hw=>by
  have ke:cz (u,d)=cz (.l t,.list ds):=hd;cases ke
  have Du:w=v:=hw;subst Du;simp only[Own]at h;rcases h with⟨_,hi,_⟩|⟨a,xs,jU,fs,rfl,h1,h2,rfl,h3⟩
  ·simp only[imm]at hi;cases hi
  ·cases h2
   refine⟨a,xs,fs,[],[],rfl,h1,by simp,h3,λH' F' kN jU jK _ _ k o=>?_⟩;simp only[Own,a3q,bM,bj];exact .inr ⟨a,kN,jU,jK,rfl,k,rfl,rfl,o⟩
 |j::p,u,t,v,w,d,fp,ds,h,hd,hw=>by
  obtain⟨a0,vp,v1,rfl,sD,zH,hw⟩:=hw;cases u with
  |l u=>
   cases d with
   |list es=>
    have ke:(es[j]?).bind (λd=>dAt u d p)=cz (.l t,.list ds):=hd;obtain⟨d1,g1,g2⟩:=bnd ke;simp only[Own]at h;rcases h with⟨_,hi,_⟩|⟨a,xs,jL,fs,e0,h1,h2,rfl,h3⟩
    ·simp only[imm]at hi;cases hi
    ·cases h2
     cases e0
     have vM:vp=xs:=by rcases sD with z|z<;>rw[h1]at z<;>cases z;rfl
     subst vM;obtain⟨v2,f,pre,post,z1,z2,rfl,z4⟩:=h3.zip g1;rw[zH]at z1;cases z1
     obtain⟨b,ys,jK,ni,kG,rfl,q2,rfl,q4,q5⟩:=Own.path p z2 g2 hw;refine⟨b,ys,jK,a0::(pre++ni),kG++post,rfl,q2,by simp,q4,λH' F' kN jU Am k e' hb o=>?_⟩;have k1:∀a∈pre++post,H' a=H a:=λa ha=>k a (by simp only[av,aG]at ha ⊢;rcases ha with z|z;exact .inl (.inr (.inl z));exact .inr (.inr z))
     have k2:∀a∈ni++kG,H' a=H a:=λa ha=>k a (by simp only[av,aG]at ha ⊢;rcases ha with z|z;exact .inl (.inr (.inr z));exact .inr (.inl z))
     have o1:=q5 H' F' kN jU Am k2 e' hb o;have o2:=z4 H' F' _ _ _ k1 e' o1;rw[set_same zH]at o2;show Own K H' F' (.l u) (.ref a0) (.list (es.set j (a3q (es.getD j .none) p (.list jU)))) _;rw[B7 g1];simp only[Own];refine .inr ⟨a0,vp,_,_,rfl,(k a0 (by simp)).trans h1,rfl,?_,o2⟩;simp
   |_=>cases hd
  |tp us=>
   cases d with
   |tuple es=>
    have ke:(us[j]?).bind (λu=>(es[j]?).bind λd=>dAt u d p)=cz (.l t,.list ds):=hd;obtain⟨u1,g0,Fe⟩:=bnd ke;obtain⟨d1,g1,g2⟩:=bnd Fe;simp only[Own]at h;rcases h with⟨_,hi,_⟩|⟨a,xs,jL,e0,h1,h0,h2,h3⟩
    ·exact (hi.2 _ rfl).elim
    cases h2
    cases e0
    have vM:vp=xs:=by rcases sD with z|z<;>rw[h1]at z<;>cases z;rfl
    subst vM;obtain⟨v2,f,pre,post,z1,z2,rfl,z4⟩:=h3.zip g0 g1;rw[zH]at z1;cases z1
    obtain⟨b,ys,jK,ni,kG,rfl,q2,rfl,q4,q5⟩:=Own.path p z2 g2 hw;refine⟨b,ys,jK,pre++ni,kG++post,rfl,q2,by simp,q4,λH' F' kN jU Am k e' hb o=>?_⟩;have k1:∀a∈pre++post,H' a=H a:=λa ha=>k a (by simp only[av]at ha ⊢;rcases ha with z|z;exact .inl (.inl z);exact .inr (.inr z))
    have k2:∀a∈ni++kG,H' a=H a:=λa ha=>k a (by simp only[av]at ha ⊢;rcases ha with z|z;exact .inl (.inr z);exact .inr (.inl z))
    have o1:=q5 H' F' kN jU Am k2 e' hb o;have o2:=z4 H' F' _ _ k1 e' o1;show Own K H' F' (.tp us) (.ref a0) (.tuple (es.set j (a3q (es.getD j .none) p (.list jU)))) _;rw[B7 g1];obtain⟨n1,n2⟩:=m8 (e' a0 _ (j7 h0 h1));simp only[Own];refine .inr ⟨a0,vp,_,rfl,n2,n1,rfl,?_⟩;simpa using o2
   |_=>cases hd
  |i=>cases hd
  |f=>cases hd
  |d kt u=>cases hd
def X7{N O:List aw}(h:O.Nodup)(k:∀a,N.count a<=O.count a):N.Nodup:=eQ.mpr λa=>cR (k a) (eQ.mp h a)
def Pend.put{Z:List D}(h:Pend K ([]++[.own t]) ([]++[d]) ([]++[cz v]) M Z U H P F)(hm:M[i]?=cz (.own u))(h0:U[i]?=cz (cz v0))(hd:dAt u (Z.getD i .none) p=cz (.l t,.list ds))(hw:wk H v0 p w) :
  ∃b xs,w=.ref b/\H b=cz (.lst xs)/\xs.length=ds.length/\StR K M (Z.set i (a3q (Z.getD i .none) p (.list (ds++[d])))) U (upd H b (.lst (xs++[v]))) P F/\
   ∀j,j<ds.length->StR K M (Z.set i (a3q (Z.getD i .none) p (.list (ds.set j d)))) U (upd H b (.lst (xs.set j v))) P F:=by
 obtain⟨_,_,S⟩:=h;obtain⟨G,h1,h2,h3⟩:=S.all;have nN:StAll K H F (.own t::M) (d::Z) (cz v::U) G:=by simpa using h1
 simp only[StAll]at nN;obtain⟨d',Z',o',U',fv,G2,e1,e2,rfl,⟨v',e3,ov⟩,h5⟩:=nN;cases e1
 cases e2
 cases e3
 obtain⟨dd,oo,f,pre,post,q1,q2,⟨v2,rfl,q3⟩,rfl,q5⟩:=h5.at_ hm;rw[h0]at q2;cases q2
 rw[B7 q1]at hd;obtain⟨b,xs,fs,ni,kG,rfl,r2,rfl,r4,r5⟩:=q3.path p hd hw;have EK:b∈F:=h3 b (by simp);have iS:∀o,Same (cut H F) (cut (upd H b o) F):=λo a o' ha=>by
  obtain⟨n1,n2⟩:=m8 ha;exact j7 n1 (by rw[c9 (show a≠b from λz=>n1 (z▸EK))];exact n2)
 have iN:∀a,a≠b\/(pre++post).count a=0/\(ni++kG).count a=0/\fs.count a=0/\fv.count a=0:=λa=>by
  by_cases e:a=b
  ·subst e;have:=eQ.mp h2 a;simp only[bW,bG,xu]at this ⊢;exact .inr ⟨by lia,by lia,by lia,by lia⟩
  ·exact .inl e
 have kk:∀(l:List aw) (o:HO),(∀a,a=b->l.count a=0)->∀a∈l,upd H b o a=H a:=λl o hc a ha=>c9 λz=>by
  have:=hc a z;rw[jQ]at this;exact this ha
 have c1:∀a,a=b->(pre++post).count a=0:=λa e=>((iN a).resolve_left (λn=>n e)).1
 have c2:∀a,a=b->(ni++kG).count a=0:=λa e=>((iN a).resolve_left (λn=>n e)).2.1
 have c3:∀a,a=b->fs.count a=0:=λa e=>((iN a).resolve_left (λn=>n e)).2.2.1
 have c4:∀a,a=b->fv.count a=0:=λa e=>((iN a).resolve_left (λn=>n e)).2.2.2
 have fin:∀(kN:List V) (jU:List D) (jK:List aw),ListAll (Own K (upd H b (.lst kN)) F t) kN jU jK->(∀a,jK.count a<=fs.count a+fv.count a)->StR K M (Z.set i (a3q dd p (.list jU))) U (upd H b (.lst kN)) P F:=λkN jU jK ha oV=>by
  have o1:=r5 (upd H b (.lst kN)) F kN jU jK (kk _ _ c2) (iS _) i6 ha;have q:=q5 (upd H b (.lst kN)) F (.own u) (a3q dd p (.list jU)) (cz v0) _ (kk _ _ c1) (iS _) ⟨v0,rfl,o1⟩;rw[set_same (l:=U) h0,set_same (l:=M) hm]at q;refine⟨⟨_,q,X7 h2 λa=>?_,λa ha=>?_⟩,λa ha=>?_,S.prot.trans (iS _)⟩
  ·have:=oV a;simp only[bW,bG,gj];lia
  ·have hc:0<(fv++(pre++(ni++(b::fs++kG)++post))).count a:=by
    have h0:=fB.mpr ha;have:=oV a;simp only[bW,bG,gj]at h0 ⊢;lia
   exact h3 a (fB.mp hc)
  ·by_cases e:a=b
   ·subst e;exact⟨⟨.lst kN,trivial⟩,i6⟩
   ·obtain⟨ys,y⟩:=S.lst a ha;exact⟨ys,by rw[c9 e];exact y⟩
 rw[B7 q1];refine⟨b,xs,rfl,r2,r4.length,fin (xs++[v]) (ds++[d]) (fs++fv) ?_ λa=>by rw[bW];exact aA _,λj hj=>?_⟩
 ·refine (n9 (iS _) r4 (kk _ _ c3)).append ?_;have:=m9 (R:=Own K (upd H b (.lst (xs++[v]))) F t) (ov.frame (iS _) t (kk _ _ c4)) p7
  rwa[bj]at this
 ·obtain⟨v3,f3,a1,a2,s1,s2,rfl,s4⟩:=r4.zip (ag hj);have c5:∀a,a=b->(a1++a2).count a=0:=λa e=>by have:=c3 a e;simp only[bW]at this ⊢;lia
  refine fin (xs.set j v) (ds.set j d) (a1++(fv++a2)) (s4 _ F v d fv (kk _ _ c5) (iS _) (ov.frame (iS _) t (kk _ _ c4))) λa=>?_
  simp only[bW];lia
end
inductive Out where
 |nx (Z:List D)|rt (d:D)|bk (Z:List D)|ct (Z:List D)
abbrev EvS:=List D->Option Out
def EndsOk(K:ae)(P:Hp)(u:Ty)(ML M:List Md)(D:Ends)(o:Out):Prop:=
 match o with
 |.nx Z=>∀U H F,StR K M Z U H P F->D.nx U H
 |.rt d=>∀v H fp,Own K H fp u v d fp->fp.Nodup->(∀a∈fp,P a=xn)->Same P H->D.rt v H
 |.bk Z=>∀U H F,StR K ML Z U H P F->D.bk U H
 |.ct Z=>∀U H F,StR K ML Z U H P F->D.ct U H
def spS(K:ae)(u:Ty)(ML M:List Md)(g:EvS)(M':List Md):TS:=λD U H=>∃(Z:List VS.D) (P:Hp) (F:List aw) (o:Out),StR K M Z U H P F/\g Z=cz o/\EndsOk K P u ML M' D o
def PSX(X:Cx)(u:Ty)(ML M:List Md)(st:gx)(g:EvS)(M':List Md):Prop:=PS X st (spS X.K u ML M g M')
def PSsX(X:Cx)(u:Ty)(ML M:List Md)(lI:List gx)(g:EvS)(M':List Md):Prop:=PSs X lI (spS X.K u ML M g M')
section
variable {X:Cx}{u:Ty}{ML M M':List Md}{st:gx}{lI:List gx}{g:EvS}
def PSX.mk(h:∃t,PS X st t/\∀(D:Ends) (Z:List VS.D) (U:L2.St) (H P:Hp) (F:List aw) (o:Out),StR X.K M Z U H P F->g Z=cz o->EndsOk X.K P u ML M' D o->t D U H):PSX X u ML M st g M':=by
 obtain⟨t,p,q⟩:=h;exact λpins s U H D I ⟨Z,P,F,o,S,hg,k⟩=>p pins s U H D I (q D Z U H P F o S hg k)
def PSX.out(h:PSX X u ML M st g M'):∃t,PS X st t/\∀(D:Ends) (Z:List VS.D) (U:L2.St) (H P:Hp) (F:List aw) (o:Out),StR X.K M Z U H P F->g Z=cz o->EndsOk X.K P u ML M' D o->t D U H:=
 ⟨_,h,λ_ Z _ _ P F o S hg k=>⟨Z,P,F,o,S,hg,k⟩⟩
def PSsX.mk(h:∃t,PSs X lI t/\∀(D:Ends) (Z:List VS.D) (U:L2.St) (H P:Hp) (F:List aw) (o:Out),StR X.K M Z U H P F->g Z=cz o->EndsOk X.K P u ML M' D o->t D U H):PSsX X u ML M lI g M':=by
 obtain⟨t,p,q⟩:=h;exact λpins s U H D I ⟨Z,P,F,o,S,hg,k⟩=>p pins s U H D I (q D Z U H P F o S hg k)
def PSsX.out(h:PSsX X u ML M lI g M'):∃t,PSs X lI t/\∀(D:Ends) (Z:List VS.D) (U:L2.St) (H P:Hp) (F:List aw) (o:Out),StR X.K M Z U H P F->g Z=cz o->EndsOk X.K P u ML M' D o->t D U H:=
 ⟨_,h,λ_ Z _ _ P F o S hg k=>⟨Z,P,F,o,S,hg,k⟩⟩
end
def Wk(M M1:List Md):Prop:=∀(K:ae) (Z:List D) (U:L2.St) (H P:Hp) (F:List aw),StR K M Z U H P F->∃F',StR K M1 Z U H P F'
def n5:Wk M M:=λ_ _ _ _ _ F S=>⟨F,S⟩
def Wk.trans(a:Wk M M1)(b:Wk M1 M2):Wk M M2:=λK Z U H P F S=>by
 obtain⟨F1,S1⟩:=a K Z U H P F S;exact b K Z U H P F1 S1
def m6{M:List Md}(i:Nat)(h:M[i]?=cz m:=by rfl):Wk M (M.set i .dead):=λK Z U H P F S=>⟨F,S.dead h⟩
def X8{M:List Md}(i:Nat)(h:M[i]?=cz (.own u):=by rfl):Wk M (M.set i (.own .f)):=λK Z U H P F S=>S.freeze h
def G9:EvS:=λZ=>cz (.nx Z)
noncomputable def g9(a b:EvS):EvS:=λZ=>(a Z).bind λo=>match o with
 |.nx Z'=>b Z'
 |o=>cz o
noncomputable def j8(i:Nat)(f:EvE):EvS:=λZ=>(f Z).bind λd=>cz (.nx (Z.set i d))
def asP:D->Option (D×D)
 |.tuple [a,b]=>cz (a,b)
 |_=>xn
def a7i(i j:Nat)(f:EvE):EvS:=λZ=>(f Z).bind λd=>(asP d).bind λp=>cz (.nx ((Z.set i p.1).set j p.2))
noncomputable def u7(f:EvE):EvS:=λZ=>(f Z).bind λd=>cz (.rt d)
def sEx(f:EvE):EvS:=λZ=>(f Z).bind λ_=>cz (.nx Z)
noncomputable def sIf(c:EvT)(a b:EvS):EvS:=λZ=>(c Z).bind λk=>if k then a Z else b Z
def sNo:EvS:=λ_=>xn
def W4(set:List D->D->Option (List D))(g:EvS):List D->List D->Option Out
 |[],Z=>cz (.nx Z)
 |d::ds,Z=>(set Z d).bind λZ1=>(g Z1).bind λo=>match o with
  |.nx Z'=>W4 set g ds Z'
  |.ct Z'=>W4 set g ds Z'
  |.bk Z'=>cz (.nx Z')
  |.rt d=>cz (.rt d)
def r0(i:Nat):List D->D->Option (List D):=λZ d=>cz (Z.set i d)
def a3r(i j:Nat):List D->D->Option (List D):=λZ d=>(asP d).bind λp=>cz ((Z.set i p.1).set j p.2)
noncomputable def C6(fi:EvA)(set:List D->D->Option (List D))(g:EvS):EvS:=λZ=>(fi Z).bind λds=>W4 set g ds Z
def whL(c:EvT)(g:EvS):Nat->List D->Option Out
 |0,_=>xn
 |n+1,Z=>(c Z).bind λk=>if k then (g Z).bind λo=>match o with
  |.nx Z'=>whL c g n Z'
  |.ct Z'=>whL c g n Z'
  |.bk Z'=>cz (.nx Z')
  |.rt d=>cz (.rt d)
  else cz (.nx Z)
def sWh(n:List D->Nat)(c:EvT)(g:EvS):EvS:=λZ=>whL c g (n Z) Z
section
variable {K:ae}{M M1:List Md}{Z:List D}{U:L2.St}{H P:Hp}{F:List aw}
def StR.pend(S:StR K M Z U H P F):Pend K [] [] [] M Z U H P F:=⟨rfl,rfl,S⟩
def Pend.store{Zp:List D}(h:Pend K (Mp++[.own u]) (Zp++[d]) (Up++[cz v]) M Z U H P F)(lp:Zp.length=Mp.length)(lq:Up.length=Mp.length)(hm:M[i]?=cz m) :
  Pend K Mp Zp Up (M.set i (.own u)) (Z.set i d) (U.set i (cz v)) H P F:=by
 obtain⟨_,_,S⟩:=h;obtain⟨G,h1,h2,h3⟩:=S.all;obtain⟨G1,G2,rfl,h4,h5⟩:=h1.splitAt (by simp[lp]) (by simp[lq]);obtain⟨G3,G4,rfl,h6,h7⟩:=h4.splitAt lp lq;have h8:OwnTs K H F [u] [v] [d] G4:=X6 (us:=[u]) (vs:=[v]) h7;simp only[OwnTs]at h8;obtain⟨v',r,d',e,f,g,e1,e2,rfl,o,rfl,rfl,rfl⟩:=h8;cases e1
 cases e2
 obtain⟨d0,o0,f0,pre,post,q1,q2,q3,rfl,q5⟩:=h5.at_ hm;have q:=h6.join (q5 H F (.own u) d (cz v) f (λ_ _=>rfl) (Same.refl _) ⟨v,rfl,o⟩);refine⟨lp,lq,⟨⟨_,q,X7 h2 λa=>?_,λa ha=>h3 a ?_⟩,S.lst,S.prot⟩⟩
 ·simp only[bW];lia
 ·simp only[av,bj]at ha ⊢;rcases ha with z|z|z|z
  ·exact .inl (.inl z)
  ·exact .inr (.inl z)
  ·exact .inl (.inr z)
  ·exact .inr (.inr (.inr z))
def Pend.st(h:Pend K [] [] [] M Z U H P F):StR K M Z U H P F:=h.2.2
def Pend.one(h:Pend K ([]++[.own u]) ([]++[d]) ([]++[cz v]) M Z U H P F):∃fp,Own K H F u v d fp/\fp.Nodup/\∀a∈fp,a∈F:=by
 obtain⟨_,_,S⟩:=h;obtain⟨G,h1,h2,h3⟩:=S.all;obtain⟨G1,G2,rfl,h4,h5⟩:=h1.splitAt (A:=[]++[.own u]) (Z1:=[]++[d]) (U1:=[]++[cz v]) rfl rfl;have h8:OwnTs K H F [u] [v] [d] G1:=X6 (us:=[u]) (vs:=[v]) h4;simp only[OwnTs]at h8;obtain⟨v',r,d',e,f,g,e1,e2,rfl,o,rfl,rfl,rfl⟩:=h8;cases e1
 cases e2
 rw[bj]at h2 h3;exact⟨f,o,(bR.mp h2).1,λa ha=>h3 a (ao _ ha)⟩
def b8s(u u1 u2:Ty):Prop:=(u=.f/\u1=.f/\u2=.f)\/(u=.i/\u1=.i/\u2=.i)\/u=.tp [u1,u2]
def Pend.untup(h:Pend K ([]++[.own u]) ([]++[.tuple [d1,d2]]) ([]++[cz v]) M Z U H P F)(hp:b8s u u1 u2) :
  ∃a v1 v2,v=.ref a/\SqT K H a [v1,v2]/\Pend K ([.own u1]++[.own u2]) ([d1]++[d2]) ([cz v1]++[cz v2]) M Z U H P F:=by
 obtain⟨_,_,S⟩:=h;obtain⟨G,h1,h2,h3⟩:=S.all;obtain⟨G1,G2,rfl,h4,h5⟩:=h1.splitAt (A:=[]++[.own u]) (Z1:=[]++[.tuple [d1,d2]]) (U1:=[]++[cz v]) rfl rfl;have h8:OwnTs K H F [u] [v] [.tuple [d1,d2]] G1:=X6 (us:=[u]) (vs:=[v]) h4;simp only[OwnTs]at h8;obtain⟨v',r,d',e,f,g,e1,e2,rfl,o,rfl,rfl,rfl⟩:=h8;cases e1
 cases e2
 have key:∃a v1 v2 f1 f2,v=.ref a/\SqT K H a [v1,v2]/\f=f1++f2/\Own K H F u1 v1 d1 f1/\Own K H F u2 v2 d2 f2:=by
  rcases hp with⟨rfl,rfl,rfl⟩|⟨rfl,rfl,rfl⟩|rfl
  ·obtain⟨rfl,o'⟩:=a9V o;obtain⟨a,xs,rfl,k1,k2⟩:=o'.tup_inv;obtain⟨v1,v2,rfl,k3,k4⟩:=a0h k2;refine⟨a,v1,v2,[],[],rfl,a0J k1 k7,rfl,?_,?_⟩<;>simp only[Own]
   ·exact⟨trivial,k3⟩
   ·exact⟨trivial,k4⟩
  ·obtain⟨rfl,hi,o'⟩:=a2l o;obtain⟨a,xs,rfl,k1,k2⟩:=o'.tup_inv;obtain⟨v1,v2,rfl,k3,k4⟩:=a0h k2;simp only[imm,g6,aD]at hi;refine⟨a,v1,v2,[],[],rfl,a0J k1 k7,rfl,?_,?_⟩<;>simp only[Own]
   ·exact⟨trivial,hi.1,k3⟩
   ·exact⟨trivial,hi.2.1,k4⟩
  ·simp only[Own,OwnTs]at o;rcases o with⟨_,hi,_⟩|⟨a,xs,ds,rfl,k1,_,e0,v1,r,GP,e',f1,g1,rfl,e2,rfl,o1,v2,r2,GO,GL,f2,g2,rfl,e3,rfl,o2,rfl,rfl,rfl⟩
   ·exact (hi.2 _ rfl).elim
   cases e0
   cases e2
   cases e3
   exact⟨a,v1,v2,f1,f2,rfl,SqT.of k1,by simp,o1,o2⟩
 obtain⟨a,v1,v2,f1,f2,rfl,k1,rfl,o1,o2⟩:=key;refine⟨a,v1,v2,rfl,k1,rfl,rfl,⟨⟨f1++(f2++G2),?_,by simpa using h2,λa ha=>h3 a (by simpa using ha)⟩,S.lst,S.prot⟩⟩;exact k6 (m:=.own u1) ⟨v1,rfl,o1⟩ (k6 (m:=.own u2) ⟨v2,rfl,o2⟩ h5)
end
section
variable {X:Cx}{u t:Ty}{ML M M1 M2 M':List Md}{st:gx}{lI body Cd:List gx}{g g1 g2:EvS}{e tg iter:Expr}{f:EvE}{fc:EvT}{fi:EvA}{c:Cat}{pos:fS}
def EndsOk.pre{K:ae}{P:Hp}{D:Ends}{o:Out}(h:EndsOk K P u ML M' D o)(hw:Wk M M'):EndsOk K P u ML M D o:=by
 cases o with
 |nx Z=>exact λU H F S=>by obtain⟨F',S'⟩:=hw K Z U H P F S;exact h U H F' S'
 |rt d=>exact h
 |bk Z=>exact h
 |ct Z=>exact h
def PSsX.weak(h:PSsX X u ML M1 lI g M2)(a:Wk M M1)(b:Wk M2 M'):PSsX X u ML M lI g M':=by
 obtain⟨t,p,q⟩:=h.out;refine .mk ⟨t,p,λD Z U H P F o S hg k=>?_⟩;obtain⟨F1,S1⟩:=a _ Z U H P F S;exact q D Z U H P F1 o S1 hg (k.pre b)
def PSX.weak(h:PSX X u ML M1 st g M2)(a:Wk M M1)(b:Wk M2 M'):PSX X u ML M st g M':=by
 obtain⟨t,p,q⟩:=h.out;refine .mk ⟨t,p,λD Z U H P F o S hg k=>?_⟩;obtain⟨F1,S1⟩:=a _ Z U H P F S;exact q D Z U H P F1 o S1 hg (k.pre b)
def z8:PSsX X u ML M [] G9 M:=.mk ⟨_,b6d,λD Z U H P F o S hg k=>by cases hg;exact k U H F S⟩
def b7(h1:PSX X u ML M st g1 M1)(h2:PSsX X u ML M1 lI g2 M'):PSsX X u ML M (st::lI) (g9 g1 g2) M':=by
 obtain⟨t1,p1,q1⟩:=h1.out;obtain⟨t2,p2,q2⟩:=h2.out;refine .mk ⟨_,Q9 p1 p2,λD Z U H P F o S hg k=>?_⟩;obtain⟨o1,h1,g1⟩:=bnd hg;refine q1 {D with nx:=t2 D} Z U H P F o1 S h1 ?_;cases o1 with
 |nx Z'=>exact λU' H' F' S'=>q2 D Z' U' H' P F' o S' g1 k
 |rt d=>cases g1;exact k
 |bk Z'=>cases g1;exact k
 |ct Z'=>cases g1;exact k
def g7(h1:PSX X u ML M st g M1):PSsX X u ML M [st] g M1:=by
 obtain⟨t1,p1,q1⟩:=h1.out;exact .mk ⟨_,a9P p1,q1⟩
def g8(i:Nat)(hN:X.N.Nodup)(he:PMX X M e f t M1)(hi:X.N[i]?=cz x:=by rfl)(hx:autoParam (Loc X.env.scope x) ZX._auto_1)(hm:M1[i]?=cz m:=by rfl)
  (hs:eR e (cz (.Name x px)) pos.line X.env=pure yH:=by rfl) (hf:autoParam (X.fn x=yn\/X.env.scope.names.lookup x=cz .local) ZW._auto_1):PSX X u ML M (.Assign [.Name x px] e pos) (j8 i f) (M1.set i (.own t)):=by
 obtain⟨te,pe,qe⟩:=he;refine .mk ⟨_,a8k hN hi hx pe hs hf,λD Z U H P F o S hg k=>?_⟩;obtain⟨d,h1,g1⟩:=bnd hg;cases g1
 exact qe [] [] [] Z U H P F d _ S.pend h1 λv H' F' e S'=>k _ _ F' (S'.store rfl rfl hm).st
def b6H(i j:Nat){pt pk}(hN:X.N.Nodup)(hc:X.calm=yn)(he:PMX X M e f t M1)(hp:b8s t u1 u2)(hi:X.N[i]?=cz x:=by rfl)(hj:X.N[j]?=cz y:=by rfl)(hx:autoParam (Loc X.env.scope x) ZX._auto_1)
  (hy:autoParam (Loc X.env.scope y) ZX._auto_1) (gZ:i≠j:=by decide) (t_:M1[i]?=cz m1:=by rfl) (zy:M1[j]?=cz m2:=by rfl)
  (Er:autoParam (X.fn x=yn\/X.env.scope.names.lookup x=cz .local) ZW._auto_1) (wC:autoParam (X.fn y=yn\/X.env.scope.names.lookup y=cz .local) ZW._auto_1)
  (hl:(iM [.Name x px,.Name y py] X.env).length=2:=by rfl) (mS:(iM [.Name x px,.Name y py] X.env).findIdx? (·.1)=xn:=by rfl)
  (hg1:PGs X [.Name x px,.Name y py] (a2Y (M7 i) (a2Y (M7 j) b6e)):=by exact y7 (p5 hN hi hx Er) (y7 (p5 hN hj hy wC) a0a))
  (hs:swapsWithSole [.Tuple [.Name x px,.Name y py] pk pt] e pos.line X.env=pure yH:=by rfl) (hw:swappedStores [.Tuple [.Name x px,.Name y py] pk pt] e X.env=pure xn:=by rfl)
  (h1:(iM [.Tuple [.Name x px,.Name y py] pk pt] X.env).map (·.2)=[pZ (.Tuple [.Name x px,.Name y py] pk pt) X.env]:=by rfl) :
  PSX X u ML M (.Assign [.Tuple [.Name x px,.Name y py] pk pt] e pos) (a7i i j f) ((M1.set i (.own u1)).set j (.own u2)):=by
 obtain⟨te,pe,qe⟩:=he;refine .mk ⟨_,b8T pe (a2Z hc hg1 hl mS) hs hw h1,λD Z U H P F o S hg k=>?_⟩;obtain⟨d,h1,g1⟩:=bnd hg;obtain⟨⟨d1,d2⟩,h2,g2⟩:=bnd g1;cases g2
 have hd:d=.tuple [d1,d2]:=by
  match d,h2 with
  |.tuple [a,b],h2=>cases h2;rfl
 subst hd;refine qe [] [] [] Z U H P F _ _ S.pend h1 λv H' F' e S'=>?_
 obtain⟨a,v1,v2,rfl,k1,S2⟩:=S'.untup hp;refine⟨a,_,rfl,k1,rfl,v1,[v2],rfl,v2,[],rfl,rfl,?_⟩;have S3:=S2.store (i:=j) rfl rfl zy;have zA:(M1.set j (.own u2))[i]?=cz m1:=by rw[bF (cV gZ)];exact t_
 have S4:=(Pend.store (Mp:=[]) (Zp:=[]) (Up:=[]) (i:=i) S3 rfl rfl zA).st;rw[sk _ _ (cV gZ),sk _ _ (cV gZ),sk _ _ (cV gZ)]at S4;exact k _ _ F' S4
def k8(he:PMX X M e f u M1):PSX X u ML M (.Return (cz e) pos) (u7 f) M':=by
 obtain⟨te,pe,qe⟩:=he;refine .mk ⟨_,b8P pe,λD Z U H P F o S hg k=>?_⟩;obtain⟨d,h1,g1⟩:=bnd hg;cases g1
 refine qe [] [] [] Z U H P F d _ S.pend h1 λv H' F' e S'=>?_
 obtain⟨fp,o,nd,sub⟩:=S'.one;refine k v H' fp (o.frame (F6 sub) u λ_ _=>rfl) nd (λa ha=>?_) (S'.2.2.prot.trans k7);cases hP:P a with
 |none=>rfl
 |some o'=>
  have:=S'.2.2.prot _ _ hP;rw[X1 (sub a ha)]at this;cases this
def a6h(he:PX X M e f c)(hs:eR e xn pos.line X.env=pure yH:=by rfl):PSX X u ML M (.Expr e pos) (sEx f) M:=by
 obtain⟨te,pe,qe⟩:=he.out;refine .mk ⟨_,P3 pe hs,λD Z U H P F o S hg k=>?_⟩;obtain⟨d,h1,g1⟩:=bnd hg;cases g1
 exact qe Z U H P F d _ S.toE h1 λv H' e _=>k U H' F (S.grow e)
def K7(hc:PTX X M c0 fc)(ha:PSsX X u ML M body g1 M')(hb:PSsX X u ML M Cd g2 M'):PSX X u ML M (.If c0 body Cd pos) (sIf fc g1 g2) M':=by
 obtain⟨tc,pc,qc⟩:=hc.out;obtain⟨ta,pa,qa⟩:=ha.out;obtain⟨tb,pb,qb⟩:=hb.out;refine .mk ⟨_,b8m pc pa pb,λD Z U H P F o S hg k=>?_⟩;obtain⟨b,h1,g1⟩:=bnd hg;refine qc Z U H P F b _ S.toE h1 λH1 e1=>?_
 cases b with
 |true=>exact a3f (qa D Z U H1 P F o (S.grow e1) g1 k)
 |false=>exact a4E (qb D Z U H1 P F o (S.grow e1) g1 k)
def b8t:PSX X u ML M st sNo M':=.mk ⟨_,b2T,λD Z U H P F o S hg k=>by cases hg⟩
def b3B(K:ae)(M MB:List Md)(g:TG)(set:List D->D->Option (List D))(m:D->Prop):Prop:=
 ∀(Z:List D) (U:L2.St) (H P:Hp) (F:List aw) (x:V) (d:D) (Z':List D) (Q:L2.St->Hp->Prop),StR K M Z U H P F->Den K (cut H F) x d->m d->set Z d=cz Z'->(∀U' F',StR K MB Z' U' H P F'->Q U' H)->g x U H Q
def mI(d:D):Prop:=imm d=yn
def mF(_:D):Prop:=True
def a1G(hm:M[i]?=cz m:=by rfl):b3B K M (M.set i (.own .f)) (M7 i) (r0 i) mF:=by
 intro Z U H P F x d Z' Q S hd _ hs q;cases hs
 exact q _ _ (S.set (u:=.f) (fp:=[]) hm (Same.refl _) (by simp only[Own,bM];exact⟨trivial,hd⟩) bH λa ha=>(nomatch ha))
def U1(hm:M[i]?=cz m:=by rfl):b3B K M (M.set i (.own .i)) (M7 i) (r0 i) mI:=by
 intro Z U H P F x d Z' Q S hd hi hs q;cases hs
 exact q _ _ (S.set (u:=.i) (fp:=[]) hm (Same.refl _) (by simp only[Own,bM];exact⟨trivial,hi,hd⟩) bH λa ha=>(nomatch ha))
def a8H(hw:w=.f\/w=.i)(gZ:i≠j:=by decide)(t_:M[i]?=cz m1:=by rfl)(zy:M[j]?=cz m2:=by rfl):b3B K M ((M.set i (.own w)).set j (.own w)) (b8R K 2 (a2Y (M7 i) (a2Y (M7 j) b6e))) (a3r i j) (λd=>w=.i->imm d=yn):=by
 intro Z U H P F x d Z' Q S hd hi hs q;obtain⟨⟨d1,d2⟩,h2,g2⟩:=bnd hs;cases g2
 have ui:d=.tuple [d1,d2]:=by
  match d,h2 with
  |.tuple [a,b],h2=>cases h2;rfl
 subst ui;obtain⟨a,xs,rfl,k1,k2⟩:=hd.tup_inv;obtain⟨v1,v2,rfl,k3,k4⟩:=a0h k2;refine⟨a,_,rfl,a0J k1 k7,rfl,v1,[v2],rfl,v2,[],rfl,rfl,?_⟩;have o1:Own K H ([]++F) w v1 d1 []:=by
  rcases hw with rfl|rfl
  ·simp only[Own,bM];exact⟨trivial,k3⟩
  ·have:=hi rfl;simp only[imm,g6,aD]at this;simp only[Own,bM];exact⟨trivial,this.1,k3⟩
 have o2:Own K H ([]++([]++F)) w v2 d2 []:=by
  rcases hw with rfl|rfl
  ·simp only[Own,bM];exact⟨trivial,k4⟩
  ·have:=hi rfl;simp only[imm,g6,aD]at this;simp only[Own,bM];exact⟨trivial,this.2.1,k4⟩
 have S1:=S.set t_ (Same.refl _) o1 bH λa ha=>(nomatch ha)
 exact q _ _ (S1.set (i:=j) (m:=m2) (by rw[bF gZ];exact zy) (Same.refl _) o2 bH λa ha=>(nomatch ha))
def D9{set:List D->D->Option (List D)}{m:D->Prop}(hc:X.calm=yn)(hp:oJ (aX X.prog X.w) X.A X.env X.xe)(hi:PIX X M tg iter fi)(hg:PG X tg gt)(hs:b3B X.K M MB gt set m)(hm:∀Z ds,fi Z=cz ds->∀d∈ds,m d)(hb:PSsX X u M MB body g M)
  (hf:∀x,eK iter X.env x=pure x:=by intro _;rfl):PSX X u ML M (.For tg iter body [] pos) (C6 fi set g) M:=by
 obtain⟨wi,pi,qi⟩:=hi;obtain⟨tb,pb,qb⟩:=hb.out;refine .mk ⟨_,a8m hp hc pi hg pb hf,λD Z U H P F o S oG k=>?_⟩;obtain⟨ds,h1,g1⟩:=bnd oG;refine qi Z U H P F ds _ S.toE h1 λJ xs Pr H1 e1 hw rJ hx=>?_
 have S1:=S.grow e1;have pE:=hx.length;refine⟨λi n U' H'=>n=xs.length-i/\i<=xs.length/\∃Z' F',StR X.K M Z' U' H' (cut H1 F) F'/\W4 set g (ds.drop i) Z'=cz o,⟨xs.length,by simp,cG _,Z,F,⟨S1.all,S1.lst,Same.refl _⟩,g1⟩,?_⟩;rintro i n U' H' ⟨rfl,hi,Z',F',S',hfl⟩;have nU:Same (cut H1 F) (cut H' F'):=S'.prot;have q:=rJ H' (nU.trans k7);by_cases jz:i<xs.length
 ·refine .inr ⟨hw.go i H' q jz,λU2 H2=>∃Z2 F2,StR X.K M Z2 U2 H2 (cut H1 F) F2/\W4 set g (ds.drop (i+1)) Z2=cz o,λU2 H2 ⟨Z2,F2,S2,h2⟩=>⟨xs.length-(i+1),by lia,rfl,jz,Z2,F2,S2,h2⟩,λx H2 hy=>?_⟩;obtain⟨rfl,qI⟩:=hw.yld i H' x H2 q jz hy;have nu:i<ds.length:=by lia
  have nY:ds.drop i=ds[i]::ds.drop (i+1):=dP nu;rw[nY]at hfl;obtain⟨Z1,uU,g2⟩:=bnd (show (set Z' ds[i]).bind _=cz o from hfl);obtain⟨o1,hg1,g3⟩:=bnd g2;obtain⟨d',rQ,sO⟩:=(hx.up nU).getV qI;have ke:d'=ds[i]:=by rw[ag nu]at rQ;exact (aK rQ).symm
  subst ke;refine hs Z' U' H2 (cut H1 F) F' x _ Z1 _ S' sO (hm Z ds h1 _ (dB nu)) uU λU3 F3 S3=>qb _ Z1 U3 H2 (cut H1 F) F3 o1 S3 hg1 ?_
  cases o1 with
  |nx Z2=>exact λU4 H4 F4 S4=>⟨Z2,F4,S4,g3⟩
  |ct Z2=>exact λU4 H4 F4 S4=>⟨Z2,F4,S4,g3⟩
  |bk Z2=>
   have:o=.nx Z2:=(aK g3).symm;subst this;exact λU4 H4 F4 S4=>k U4 H4 F4 ⟨S4.all,S4.lst,S1.prot.trans S4.prot⟩
  |rt d=>
   have:o=.rt d:=(aK g3).symm;subst this;refine λv H4 fp o nd fr e=>k v H4 fp o nd (λa ha=>?_) (S1.prot.trans e)
   exact S1.prot.free (fr a ha)
 ·have e:i=xs.length:=by lia
  subst e;rw[pE,iY]at hfl;have:o=.nx Z':=(aK hfl).symm;subst this;exact .inl ⟨hw.stop _ H' q (aA _),k U' H' F' ⟨S'.all,S'.lst,S1.prot.trans S'.prot⟩⟩
def X9(n:List D->Nat)(hp:oJ (aX X.prog X.w) X.A X.env X.xe)(hc:PTX X M c0 fc)(hb:PSsX X u M M body g M):PSX X u ML M (.While c0 body [] pos) (sWh n fc g) M:=by
 obtain⟨tc,pc,qc⟩:=hc.out;obtain⟨tb,pb,qb⟩:=hb.out;refine .mk ⟨_,b2U hp pc pb,λD Z U H P F o S oG k=>?_⟩;refine⟨λn U' H'=>∃Z' F',StR X.K M Z' U' H' P F'/\whL fc g n Z'=cz o,⟨n Z,Z,F,S,oG⟩,?_⟩;rintro n U' H' ⟨Z',F',S',hw⟩;cases n with
 |zero=>cases hw
 |succ n=>
  obtain⟨b,h1,g1⟩:=bnd (show (fc Z').bind _=cz o from hw);refine qc Z' U' H' P F' b _ S'.toE h1 λH1 e1=>?_
  cases b with
  |true=>
   refine a3f ⟨λU2 H2=>∃Z2 F2,StR X.K M Z2 U2 H2 P F2/\whL fc g n Z2=cz o,λU2 H2 z=>⟨n,FK _,z⟩,?_⟩;obtain⟨o1,hg1,g3⟩:=bnd (show (g Z').bind _=cz o from g1);refine qb _ Z' U' H1 P F' o1 (S'.grow e1) hg1 ?_;cases o1 with
   |nx Z2=>exact λU4 H4 F4 S4=>⟨Z2,F4,S4,g3⟩
   |ct Z2=>exact λU4 H4 F4 S4=>⟨Z2,F4,S4,g3⟩
   |bk Z2=>
    have:o=.nx Z2:=(aK g3).symm;subst this;exact λU4 H4 F4 S4=>k U4 H4 F4 S4
   |rt d=>
    have:o=.rt d:=(aK g3).symm;subst this;exact k
  |false=>
   have:o=.nx Z':=(aK g1).symm;subst this;exact a4E (k U' H1 F' (S'.grow e1))
end
abbrev EvP:=List D->Option (List Nat)
def PPX(X:Cx)(M:List Md)(e:Expr)(i:Nat)(f:EvP):Prop:=
 ∃t,PE X e t/\∀(Z:List D) (U:L2.St) (H P:Hp) (F:List aw) (p:List Nat) (Q:VK),StE X.K M Z U H P F->f Z=cz p->(∀v v0 H',Same H H'->U[i]?=cz (cz v0)->wk H' v0 p v->Q v H')->t U H Q
def C3:EvP:=λ_=>cz []
def a9Z(u:Ty)(d:D)(p:List Nat):Option (List D):=(dAt u d p).bind λtd=>match td with
 | (.l _,.list ds)=>cz ds
 | (.tp _,.tuple ds)=>cz ds
 |_=>xn
section
variable {X:Cx}{u t w:Ty}{ML M M1 M':List Md}{e b pl:Expr}{f fb:EvE}{fp:EvP}{cb:Cat}{pos apos cJ:fS}
def U2(i:Nat)(hN:X.N[i]?=cz x:=by rfl)(hv:autoParam (NmV X x) ZY._auto_1)(hm:M[i]?=cz (.own u):=by rfl):PPX X M (.Name x pos) i C3:=by
 refine⟨_,A5 hN hv.1 hv.2.1 hv.2.2,λZ U H P F p Q S hf k=>?_⟩;cases hf
 obtain⟨v,f,e,_⟩:=S.get hm;exact⟨v,e,k v v H (Same.refl _) e rfl⟩
def Q4(i:Nat)(u:Ty)(fp:EvP)(fe:EvE):EvS:=λZ=>(fp Z).bind λp=>(a9Z u (Z.getD i .none) p).bind λds=>(fe Z).bind λd=>if ds.length<1000000 then cz (.nx (Z.set i (a3q (Z.getD i .none) p (.list (ds++[d]))))) else xn
def c1E(u:Ty)(fp:EvP)(t:Ty):Prop:=∀Z p d td,fp Z=cz p->dAt u d p=cz td->td.1=.l t
def a3s:c1E (.l t) C3 t:=λZ p d td h1 h2=>by
 cases h1
 have n_:cz (Ty.l t,d)=cz td:=h2;cases n_
 rfl
def at_list{d:D}{p:List Nat}{ds:List D}(ht:∀td,dAt u d p=cz td->td.1=.l t)(hi:a9Z u d p=cz ds):dAt u d p=cz (.l t,.list ds):=by
 obtain⟨⟨t',d'⟩,h1,h2⟩:=bnd hi;have e:t'=.l t:=ht _ h1;subst e;cases d' with
 |list es=>cases h2;exact h1
 |_=>cases h2
def a0K(i:Nat)(hp:PPX X M pl i fp)(he:PMX X M e f t M1)(ht:c1E u fp t)(hm:M[i]?=cz (.own u):=by rfl)(t_:M1[i]?=cz (.own u):=by rfl)
  (fJ:dZ pl "append" X.env (cD pl X.env)=cD pl X.env:=by rfl)
  (iQ:((cy cJ (aq [e] X.env)).all (λx=>!x.1)&&(eX cJ (dt [] X.env)).all (λx=>x.1.isSome)
   && decide ([e].length+([]:List eO).length+(if ([]:List eO).isEmpty then 0 else 1)<30))=yn:=by rfl)
  (fI:(apos.endLine==cJ.line)=yn:=by rfl) (hs:aq [e] X.env=(yH,cD e X.env)::aq [] X.env:=by rfl) (eG:(cy cJ (aq [] X.env)).any (·.1)=yH:=by rfl)
  (pQ:eR (.Call (.Attribute pl "append" apos) [e] [] cJ) xn pos.line X.env=pure yH:=by rfl) :
  PSX X w ML M (.Expr (.Call (.Attribute pl "append" apos) [e] [] cJ) pos) (Q4 i u fp f) M1:=by
 obtain⟨tp,pp,qp⟩:=hp;obtain⟨te,pe,qe⟩:=he;refine .mk ⟨_,P3 (a5a eS ku kr a0b pp (l6 pe o9 hs) fJ iQ fI hs eG) pQ,λD Z U H P F o S hg k=>?_⟩;obtain⟨p,h1,g1⟩:=bnd hg;obtain⟨ds,h2,g2⟩:=bnd g1;obtain⟨d,h3,g3⟩:=bnd g2;by_cases hz:ds.length<1000000
 ·rw[aE hz]at g3;cases g3
  refine qp Z U H P F p _ S.toE h1 λv v0 H1 e1 sE hw=>?_
  have S1:=S.grow e1;obtain⟨v',f',e',o,_⟩:=S1.toE.get hm;rw[sE]at e';cases e'
  have uY:=at_list (λtd z=>ht Z p _ td h1 z) h2;obtain⟨b,xs,fs,pre,post,rfl,r2,_,_,_⟩:=o.path p uY hw;refine⟨.inl ⟨rfl,xs,SqL.of r2⟩,qe [] [] [] Z U H1 P F d _ S1.pend h3 λv1 H2 F2 e2 S2=>?_⟩;obtain⟨b',kN,e',vz,hl,S3,_⟩:=S2.put t_ sE uY (b8r e2 hw);cases e'
  refine⟨b,kN,v1,rfl,rfl,vz,?_,k U _ F2 S3⟩;rw[hl];exact jD hz (by rw[cY];decide)
 ·rw[aM hz]at g3;cases g3
def a3t(i:Nat)(hN:X.N.Nodup)(hc:X.calm=yn)
  (hi:PIX X M tg iter fi) (C:T7 scope X.env.kindOf ys js X.N=yn) (hg:∀cl Cl s H fp,PG (K6 X (tn++ys) scope cl Cl s H fp) tg g) (zM:TgR X.K g n pt) (tZ:mm=.i\/mm=.f)
  (sH:mm=.i->∀Z ds,fi Z=cz ds->∀d∈ds,∀bs,pt d=cz bs->g6 bs=yn) (vR:tn.length=n)
  (ht:∀cl Cl s H fp,PTs (K6 X (tn++ys) scope cl Cl s H fp) ifs (spT X.K (X5 (.own mm) n M js) ft)) (he:∀cl Cl s H fp,PX (K6 X (tn++ys) scope cl Cl s H fp) (X5 (.own mm) n M js) elt fe (.new t))
  (qI:X.N[i]?=cz x:=by rfl) (hx:autoParam (Loc X.env.scope x) ZX._auto_1) (hm:M[i]?=cz m:=by rfl)
  (pQ:eR (.ListComp elt [⟨tg,iter,ifs,0⟩] scope cps) (cz (.Name x px)) pos.line X.env=pure yn:=by rfl) (hs:∀x,eK iter X.env x=pure x:=by intro _;rfl)
  (hf:autoParam (X.fn x=yn\/X.env.scope.names.lookup x=cz .local) ZW._auto_1) :
  PSX X w ML M (.Assign [.Name x px] (.ListComp elt [⟨tg,iter,ifs,0⟩] scope cps) pos) (j8 i (o8 fi js pt ft fe)) (M.set i (.own (.l t))):=by
 obtain⟨wi,pi,qi⟩:=hi;refine .mk ⟨_,a6W (te:=spE X.K (X5 (.own mm) n M js) fe (.new t)) hc hN qI hx pi C hg ht he pQ hs hf,λD Z U H P F o S uW k=>?_⟩;obtain⟨d,h1,g1⟩:=bnd uW;cases g1
 exact a5m qi zM tZ sH vR S.toE h1 λv H' e ⟨fp,o,nd,fr⟩=>k _ _ _ (S.set hm e o nd fr)
end
def argsOk:List Ty->List D->Bool
 |[],[]=>yn
 |.i::us,d::ds=>imm d&&argsOk us ds
 |.f::us,_::ds=>argsOk us ds
 |_,_=>yH
noncomputable def fnD(us:List Ty)(n:Nat)(g:EvS):List D->Option D:=λds=>if argsOk us ds then (g (ds++aP n .none)).bind λo=>match o with
 |.rt d=>cz d
 |_=>xn
 else xn
theorem P4:∀{us:List Ty} {vs:List V} {ds:List D},argsOk us ds=yn->DenAll K H vs ds->∀n,StAll K H [] (us.map .own++aP n .dead) (ds++aP n .none) (vs.map cz++aP n xn) []
 |[],vs,[],_,hd,n=>by
  rw[hd.nil_inv]
  induction n with
  |zero=>exact R8
  |succ n ih=>exact k6 (K:=K) (H:=H) (F:=[]) (m:=.dead) (f:=[]) rfl ih
 |.i::us,vs,d::ds,h,hd,n=>by
  have h':imm d=yn/\argsOk us ds=yn:=by simpa[argsOk]using h
  obtain⟨v,r,rfl,h1,h2⟩:=hd.cons_inv;refine k6 (K:=K) (H:=H) (F:=[]) (m:=.own .i) (f:=[]) ⟨v,rfl,?_⟩ (P4 h'.2 h2 n);simp only[Own,K3];exact⟨trivial,h'.1,h1⟩
 |.f::us,vs,d::ds,h,hd,n=>by
  have h':argsOk us ds=yn:=by simpa[argsOk]using h
  obtain⟨v,r,rfl,h1,h2⟩:=hd.cons_inv;refine k6 (K:=K) (H:=H) (F:=[]) (m:=.own .f) (f:=[]) ⟨v,rfl,?_⟩ (P4 h' h2 n);simp only[Own,K3];exact⟨trivial,h1⟩
 |.l _::us,vs,d::ds,h,_,_=>by simp[argsOk]at h
 |.tp _::us,vs,d::ds,h,_,_=>by simp[argsOk]at h
 |.d _ _::us,vs,d::ds,h,_,_=>by simp[argsOk]at h
 |[],vs,d::ds,h,_,_=>by simp[argsOk]at h
 |.i::us,vs,[],h,_,_=>by simp[argsOk]at h
 |.f::us,vs,[],h,_,_=>by simp[argsOk]at h
 |.l _::us,vs,[],h,_,_=>by simp[argsOk]at h
 |.tp _::us,vs,[],h,_,_=>by simp[argsOk]at h
 |.d _ _::us,vs,[],h,_,_=>by simp[argsOk]at h
open PyProof.Rows in
def b6I{P:bu}{w:bV}{K:ae}{mg:bA->Option ak}{base:cB}{x:bA}{st:gx}{f:aw}{fd:dU}{N ps:List bA}{k n:Nat}{us:List Ty}{u:Ty}{g:EvS}{M':List Md}(F:Fun K x x st f fd)(S:FnScope N ps (i5 st))(oF:us.length=ps.length)(hn:N.length=ps.length+n)
  (hb:∀(f_:ak) (A:bP) (outer:List nQ) (s:au) (H:Hp) (E:XK),Room k (A.deeper (ju x (i5 st) s.heap.objs.size f f_))->PSsX (a0H CX0 P w K mg base N x (i5 st) f f_ A outer s H E).nox u [] (us.map .own++aP n .dead) (t9 st) g M') :
  FnOk P w K mg base CX0 (k+1) f fd ps (spD K ps.length (fnD us n g) u):=by
 refine F.ok S (λvs H Q E h=>?_) (λf_ A outer s H vs Q E hr h=>?_)
 ·obtain⟨ds,d,hl,_⟩:=h;exact hl
 obtain⟨ds,d,hl,hd,hm,q⟩:=h;obtain⟨t,p,r⟩:=(hb f_ A outer s H E hr).out;refine⟨t,p,?_⟩;unfold fnD at hm;by_cases ha:argsOk us ds=yn
 ·rw[aE ha]at hm;obtain⟨o,h1,h2⟩:=bnd hm;cases o with
  |rt d'=>
   have n_:cz d'=cz d:=h2;cases n_
   have e:L2.start N vs=vs.map cz++aP n xn:=by
    unfold L2.start;rw[show N.length-vs.length=n by lia]
   rw[e];refine r _ (ds++aP n h_) _ H H [] (.rt d) ⟨⟨[],P4 ha hd n,bH,λa ha=>(nomatch ha)⟩,λa ha=>(nomatch ha),by rw[K3];exact Same.refl H⟩ h1 ?_;exact λv H' fp o nd fr e=>q v H' fp e o nd fr
  |_=>cases h2
 ·rw[aM ha]at hm;cases hm
end VS
namespace VS
open PySem.Spec L2 PyProof.Rows
def F9(K:ae):List (bA×aw):=O0.filterMap λx=>(C4 K x).map λp=>(x,p)
def a1H:List aw->Bool
 |[]=>yn
 |a::r=>!r.contains a&&a1H r
def a3u(K:ae)(names:List bA):Bool:=a1H ((F9 K).map (·.2))&&(F9 K).all λt=>(K.lookup t.2).isNone&&names.contains t.1
theorem a3v:∀{l:List (bA×aw)} {x y:bA} {p:aw},a1H (l.map (·.2))=yn->(x,p)∈l->(y,p)∈l->x=y
 |[],_,_,_,_,h,_=>(nomatch h)
 | (z,q)::l,x,y,p,h,h1,h2=>by
  have h':((l.map (·.2)).contains q=yH)/\a1H (l.map (·.2))=yn:=by simpa[a1H]using h
  have AX:∀w,(w,q)∉l:=λw hw=>by
   have:(l.map (·.2)).contains q=yn:=by
    rw[vo];exact aJ.mpr ⟨(w,q),hw,rfl⟩
   rw[h'.1]at this;cases this
  rcases aG.mp h1 with e1|e1
  ·rcases aG.mp h2 with e2|e2
   ·cases e1;cases e2;rfl
   ·cases e1;exact absurd e2 (AX y)
  ·rcases aG.mp h2 with e2|e2
   ·cases e2;exact absurd e1 (AX x)
   ·exact a3v h'.2 e1 e2
def a2m{K:ae}{x:bA}{p:aw}(hx:x∈O0)(h:C4 K x=cz p):(x,p)∈F9 K:=
 dJ.mpr ⟨x,hx,by rw[h];rfl⟩
def E3{K:ae}{x:bA}{p:aw}(h:(x,p)∈F9 K):x∈O0/\C4 K x=cz p:=by
 obtain⟨y,hy,e⟩:=dJ.mp h;cases q:C4 K y with
 |none=>rw[q]at e;cases e
 |some r=>
  rw[q]at e;have e':(y,r)=(x,p):=aK e;cases e'
  exact⟨hy,q⟩
def a8I{K:ae}(e:a5O K cd=cz p)(X:K.In h):∃c,cd=.ref c/\gL h c p:=by
 unfold a5O at e
 split at e
 ·rename_i c
  split at e
  ·rename_i n dd vs sl hc
   split at e
   ·rename_i hn
    split at e
    ·rename_i P' file tf flags tg Be text tt BZ Fc h7 h9 Fd
     split at e
     ·rename_i jg
      cases e
      have en:n="code":=by simpa using hn
      subst en;refine⟨c,rfl,_,vs,file,tf,flags,tg,Be,text,tt,X _ _ hc,rfl,rfl,BZ,?_,?_,?_,?_,?_,bne_iff_ne.mp jg⟩
      ·simp[fm,BZ]
      ·simp[fm,Fc]
      ·simp[fm,h7]
      ·simp[fm,h9]
      ·simp[fm,Fd]
     ·cases e
    ·cases e
   ·cases e
  ·cases e
 ·cases e
def a5o{K:ae}{h:cB}(e:C4 K x=cz p)(X:K.In h)(G:h.Ns bp mg) :
  ∃f oc od fd sl c,mg x=cz (.ref f)/\K.lookup f=cz ⟨oc,od,.func fd,sl⟩/\fd.code=.ref c/\gL h c p:=by
 unfold C4 at e
 split at e
 ·rename_i f hf
  split at e
  ·rename_i oc od fd sl hl
   obtain⟨c,hc,hd⟩:=a8I e X;exact⟨f,oc,od,fd,sl,c,gq X G hf,hl,hc,hd⟩
  ·cases e
 ·cases e
def Tab0(K:ae)(h:cB):Prop:=∀x∈O0,∀p,C4 K x=cz p->isCodeTable h p/\h.get? p=cz {cls:=.none,data:=.fields #[]}
def b6J{q:bu}{loose:List bA}{yJ:ExcName->Option ak}{mg mb:bA->Option ak}{h:cB}{K:ae}(T:Top q loose yJ mg mb h)(X:K.In h)(ok:a3u K ((recsOf q).map (·.name))=yn):Tab0 K h:=λx hx p e=>by
 have hm:=a2m hx e;have hn:((K.lookup p).isNone&&((recsOf q).map (·.name)).contains x)=yn:=by
  unfold a3u at ok;rw[aD]at ok;exact dN.mp ok.2 _ hm
 rw[aD,vo]at hn;obtain⟨d,hd,rfl⟩:=aJ.mp hn.2;obtain⟨f,oc,od,fd,sl,c,h1,h2,h3,h4⟩:=a5o e X T.g;obtain⟨a,o,B_,c',P',z1,z2,z3,z4,z5,z6⟩:=T.tab d hd;rw[h1]at z1;cases z1
 rw[X _ _ h2]at z2;cases z2
 have Cz:Data.func fd=Data.func B_:=z3;cases Cz
 rw[h3]at z4;cases z4
 obtain⟨ob,vs,file,tf,flags,tg,Be,text,tt,y1,y2,y3,y4,_⟩:=h4;obtain⟨⟨Gg,FU,w1,w2,w3,w4⟩,w5⟩:=id z6;rw[y1]at w1;cases w1
 rw[y3]at w3;cases w3
 rw[y4]at w4;cases w4
 exact⟨z6.isCodeTable,w5⟩
def P2(K:ae)(H:Hp):Hp:=λb=>match (F9 K).find? λt=>t.2==b with
 |some t=>cz (.tbl #[.str (W6 t.1) 0])
 |none=>H b
def b1u{K:ae}{s₁:au}{vs:List ak} 
  (KX:K.In s₁.heap) (qy:s₁.heap.Ns bp mg) (hb:s₁.heap.Ns kJ mb) (u_:∀x:bA,x≠"__name__"->mb x=fQ x) (zE:s₁.heap.NoLimit) (hg:s₁.gens=#[])
  (EH:∃bm ob,mg "__builtins__"=cz (.ref bm)/\bm≠kJ/\s₁.heap.get? bm=cz ob/\ob.cls=.type "module"/\ob.dict=cz kJ/\ob.data=.plain)
  (rH:Tab0 K s₁.heap) (pV:a3u K names=yn)
  (ha:s₁.heap.get? a=cz {cls:=.type "list",data:=.seq vs.toArray}) (hi:IntsAre vs ns) (hl:ns.length<=bg) (hr:Room k oI)
  (F:∀base:cB,K.In base->base.Ns bp mg->FnOk P w K mg base CX k fa fd [x] sp) (nZ:∀(s:au) (u:ak),oK s fd ⟨[u],[]⟩ [(x,u)])
  (pR:∀H:Hp,SqX K H a (ns.map V.int)->sp [.ref a] H (λv _=>v=.bl yn) λ_ _ _=>False)
  (Ak:∀H e s',CX [] H s₁ (λ_ _ _=>False) e s'->False) :
  gQ (aX P w) oI (.call (.ref fa) ⟨[.ref a],[]⟩) (λr s'=>r=.ok (.ret (.bool yn))/\OldK s₁.heap s'.heap/\s'.os=s₁.os/\jV s'.gens) s₁:=by
 have rv:=vals_ints hi;have yM:=hi.length;have CZ:a1H ((F9 K).map (·.2))=yn:=by unfold a3u at pV;rw[aD]at pV;exact pV.1
 have CY:∀t∈F9 K,K.lookup t.2=xn:=λt ht=>by
  unfold a3u at pV;rw[aD]at pV;have:=dN.mp pV.2 t ht;rw[aD]at this;exact Option.isNone_iff_eq_none.mp this.1
 have core:∀H0:Hp,SqX K H0 a (ns.map V.int)->HOk P w H0 s₁.heap->(∀b u,H0 b=cz u->b=a/\∃o xs,u=.frz o (.lst xs))->(H0 a≠xn->K.lookup a=xn)->
   gQ (aX P w) oI (.call (.ref fa) ⟨[.ref a],[]⟩) (λr s'=>r=.ok (.ret (.bool yn))/\OldK s₁.heap s'.heap/\s'.os=s₁.os/\jV s'.gens) s₁:=by
  intro H0 hS hok hA hK;have kW:∀b u,P2 K H0 b=cz u->(∃x,(x,b)∈F9 K/\u=.tbl #[.str (W6 x) 0])\/((∀x,(x,b)∉F9 K)/\H0 b=cz u):=λb u e=>by
   unfold P2 at e
   split at e
   ·rename_i t ht
    cases e
    have h1:=List.mem_of_find?_eq_some ht;have h2:t.2=b:=ny.mp (List.find?_some (p:=λt:bA×aw=>t.2==b) ht);refine .inl ⟨t.1,?_,rfl⟩;rw[<-h2];exact h1
   ·rename_i ht
    refine .inr ⟨λx hx=>?_,e⟩;have:=nJ.mp ht _ hx;simp at this
  have tabAt:∀x p,(x,p)∈F9 K->P2 K H0 p=cz (.tbl #[.str (W6 x) 0]):=λx p hm=>by
   cases e:P2 K H0 p with
   |none=>
    unfold P2 at e
    split at e
    ·cases e
    ·rename_i ht
     have:=nJ.mp ht _ hm;simp at this
   |some u=>
    rcases kW p u e with⟨y,hy,rfl⟩|⟨hn,_⟩
    ·rw[a3v CZ hm hy]
    ·exact absurd hm (hn x)
  have nA:∀x,(x,a)∉F9 K:=λx hx=>by
   have:=(rH x (E3 hx).1 a (E3 hx).2).2;rw[ha]at this;cases this
  have Cm:P2 K H0 a=H0 a:=by
   cases e:P2 K H0 a with
   |none=>
    unfold P2 at e
    split at e
    ·cases e
    ·exact e.symm
   |some u=>
    rcases kW a u e with⟨y,hy,_⟩|⟨_,h⟩
    ·exact absurd hy (nA y)
    ·exact h.symm
  have ER:SqX K (P2 K H0) a (ns.map V.int):=by
   rcases hS with (h|⟨o,h⟩)|h
   ·exact .inl (.inl (Cm.trans h))
   ·exact .inl (.inr ⟨o,Cm.trans h⟩)
   ·exact .inr h
  have qL:HOk P w (P2 K H0) s₁.heap:=λb u e=>by
   rcases kW b u e with⟨x,hx,rfl⟩|⟨hn,h⟩
   ·obtain⟨h1,h2⟩:=E3 hx;exact⟨#[],(rH x h1 b h2).2,trivial,λpos cv z=>by cases z⟩
   ·obtain⟨rfl,o,xs,rfl⟩:=hA b u h;obtain⟨h1,h2⟩:=hok _ _ h;obtain⟨z,its,n,r,e'⟩:=h2;exact⟨h1,z,its,n,r,e'⟩
  have nz:∀{b:aw} {o:fV},s₁.heap.get? b=cz o->P2 K H0 b=xn->(a5N s₁.heap (P2 K H0)).get? b=cz o:=λe n=>b2R e n
  have AV:∀{b:aw} {o:fV},s₁.heap.get? b=cz o->(∀ps,o.data≠.fields ps)->(∀its n,o.data≠.seq its n)->P2 K H0 b=xn:=λ{b o} e d1 d2=>by
   cases q:P2 K H0 b with
   |none=>rfl
   |some u=>
    rcases kW b u q with⟨x,hx,rfl⟩|⟨hn,h⟩
    ·have:=(rH x (E3 hx).1 b (E3 hx).2).2;rw[e]at this;cases this
     exact absurd rfl (d1 _)
    ·obtain⟨rfl,_⟩:=hA b u h;rw[ha]at e;cases e
     exact absurd rfl (d2 _ _)
  have xF:∀{b:aw} {m:bA->Option ak},s₁.heap.Ns b m->(a5N s₁.heap (P2 K H0)).Ns b m:=λ{b m} ⟨o,es,ep,e,d,r⟩=>⟨o,es,ep,nz e (AV e (λps z=>by rw[d]at z;cases z) λits n z=>by rw[d]at z;cases z),d,r⟩
  have BS:K.In (a5N s₁.heap (P2 K H0)):=λb o e=>nz (KX b o e) (by
   cases q:P2 K H0 b with
   |none=>rfl
   |some u=>
    rcases kW b u q with⟨x,hx,rfl⟩|⟨hn,h⟩
    ·rw[CY _ hx]at e;cases e
    ·obtain⟨rfl,_⟩:=hA b u h;rw[hK (by rw[h];simp)]at e;cases e)
  have hM:Mod K mg (a5N s₁.heap (P2 K H0)):=⟨BS,xF qy,⟨mb,xF hb,u_⟩,let⟨mc,h1,h2⟩:=zE;⟨mc,xF h1,h2⟩,
   let⟨bm,ob,b1,b2,b3,b4,b5,b6⟩:=EH;⟨bm,ob,b1,b2,nz b3 (AV b3 (λps z=>by rw[b6]at z;cases z) λits n z=>by rw[b6]at z;cases z),b4,b5,b6⟩⟩
  have e0:Env0 P w K mg (a5N s₁.heap (P2 K H0)) oI [] s₁ (P2 K H0):=⟨rfl,hM,λb o e=>b6a e,Nat.le_of_eq (b1b _ _),trivial,λb hb=>absurd (show b∈([]:List aw) from hb) (by simp),qL,.of_eq hg,
   λx hx p e=>⟨_,0,tabAt x p (a2m hx e),rfl⟩⟩
  refine gH ((F _ BS (xF qy)).run oI [] s₁ (P2 K H0) ⟨[.ref a],[]⟩ [.ref a] [.ref a] _ _ hr e0 (nZ s₁ (.ref a)) (.cons rfl .nil) (pR _ ER)) λr s' h=>?_
  cases r with
  |error e=>exact (Ak _ e s' h).elim
  |ok fl=>
   cases fl with
   |next=>exact cx h
   |brk=>exact cx h
   |cont=>exact cx h
   |ret u=>
    obtain⟨v,H',os,bare,un,pU,r',q⟩:=h;have q':v=.bl yn:=q;subst q';obtain rfl:u=mJ yn:=r';refine⟨rfl,⟨λb o e=>?_,λb o e=>un.there b o e (by simp)⟩,os,bare⟩;cases q:P2 K H0 b with
    |none=>exact .inl (un.keep b o e q (by intro z;exact absurd (show b∈([]:List aw) from z) (by simp)) (by simp))
    |some u=>
     rcases kW b u q with⟨x,hx,rfl⟩|⟨hn,h⟩
     ·obtain⟨t1,t2⟩:=rH x (E3 hx).1 b (E3 hx).2;rw[e]at t2;cases t2
      obtain⟨more,e2⟩:=un.tbls b _ q;obtain⟨ps,e3,_⟩:=(show a4U H' s'.heap b _ from pU b _ e2);exact .inr (.inl ⟨t1,rfl,#[],ps,rfl,by simpa using e3⟩)
     ·obtain⟨rfl,ob,xs,rfl⟩:=hA b u h;have z2:=un.frzs b ob _ q;obtain⟨e1,_⟩:=qL b _ q;obtain⟨e2,_⟩:=pU b _ z2;rw[e]at e1;cases e1;exact .inl e2
 cases hk:K.lookup a with
 |some o=>
  have e:=KX a o hk;rw[ha]at e;cases e
  refine core (λ_=>xn) (.inr ⟨vs,_,hk,by rw[yM];exact hl,rv⟩) (λb u z=>by have z':(xn:Option HO)=cz u:=z;cases z') (λb u z=>by have z':(xn:Option HO)=cz u:=z;cases z') λz=>absurd rfl z
 |none=>
  refine core (λb=>if b=a then cz (.frz {cls:=.type "list",data:=.seq vs.toArray} (.lst (ns.map V.int))) else xn) (.inl (.inr ⟨{cls:=.type "list",data:=.seq vs.toArray},aE rfl⟩)) (λb u z=>?_) (λb u z=>?_) λ_=>hk
  ·by_cases hb:b=a
   ·have z':=(aE hb).symm.trans z;cases z'
    subst hb;exact⟨ha,by rw[aj];exact hl,vs,_,rv,ha⟩
   ·have z':=(aM hb).symm.trans z;cases z'
  ·by_cases hb:b=a
   ·have z':=(aE hb).symm.trans z;cases z'
    exact⟨hb,_,_,rfl⟩
   ·have z':=(aM hb).symm.trans z;cases z'
def b3C{l:GS}{XP:(bA->Option ak)->cB->Prop}{YP:bV->cB->Prop}{d:DefRec}{K:Params->ae}{CX:bV->CXT}{sp:bV->Sp} 
  (hn:l.most=cz n) (DQ:n<=bg) (wJ:d.params.defaults=[]) (hr:Room k oI)
  (hY:∀(w:bV) (h:cB),YP w h->(K w.params).In h) (hT:∀w:bV,a3u (K w.params) ((recsOf q).map (·.name))=yn)
  (F:∀(w:bV) (mg:bA->Option ak) (fa:aw) (h:cB),(K w.params).In h->h.Ns bp mg->mg d.name=cz (.ref fa)->
   ∃fd:dU,(∀(s:au) (u:ak),oK s fd ⟨[u],[]⟩ [(x,u)])/\
    ∀base:cB,(K w.params).In base->base.Ns bp mg->FnOk l.prog w (K w.params) mg base (CX w) k fa fd [x] (sp w))
  (pR:∀(w:bV) (H:Hp) (a:aw) (ns:List Int),ns.length<=n->SqX (K w.params) H a (ns.map V.int)->sp w [.ref a] H (λv _=>v=.bl yn) λ_ _ _=>False)
  (Ak:∀(w:bV) (H:Hp) (s:au) (e:ak) (s':au),CX w [] H s (λ_ _ _=>False) e s'->False) :
  PySem.W.WalkO q loose XP YP l.row.toRowW d [] (λf vs=>AF f vs):=by
 refine Att.attach_call hn wJ λw s₀ s₁ mg mb fa o pm cd doc a vs ns G Y ho hd kU wd tU hints hlen hg=>?_
 have KX:=hY w _ Y;obtain⟨fd,hb,hF⟩:=F w mg fa _ KX G.T.g wd;exact b1u KX G.T.g G.T.b G.T.builtins G.T.nolimit hg G.T.bmain (b6J G.T KX (hT w)) (hT w) tU hints (cR hlen DQ) hr hF hb (λH hS=>pR w H a ns hlen hS) λH e s'=>Ak w H s₁ e s'
def b1v{l:GS}{XP:(bA->Option ak)->cB->Prop}{YP:bV->cB->Prop}{d:DefRec}{K:Params->ae}{m:List br->Option br}(hn:l.most=cz 63)(wJ:d.params.defaults=[])(hr:Room k oI)
  (hY:∀(w:bV) (h:cB),YP w h->(K w.params).In h) (hT:∀w:bV,a3u (K w.params) ((recsOf q).map (·.name))=yn)
  (F:∀(w:bV) (mg:bA->Option ak) (fa:aw) (h:cB),(K w.params).In h->h.Ns bp mg->mg d.name=cz (.ref fa)->
   ∃fd:dU,(∀(s:au) (u:ak),oK s fd ⟨[u],[]⟩ [(x,u)])/\
    ∀base:cB,(K w.params).In base->base.Ns bp mg->FnOk l.prog w (K w.params) mg base CX0 k fa fd [x] (spD (K w.params) 1 m .i))
  (hm:∀ns:List Int,ns.length<=63->m [.list (ns.map .int)]=cz (.bool yn)) :
  PySem.W.WalkO q loose XP YP l.row.toRowW d [] (λf vs=>AF f vs):=
 b3C (n:=63) (k:=k) (x:=x) (CX:=λ_=>CX0) (sp:=λw=>spD (K w.params) 1 m .i) hn (by decide) wJ hr hY hT F
  (λw H a ns hl hS=>⟨_,_,rfl,denAll_cons (den_list hS (DenAll.ints ns)) denAll_nil,hm ns hl,λv H' fp _ o _ _=>(a2l o).2.2.bool_inv⟩) λ_ _ _ _ _ z=>z
end VS
namespace VS
open PySem.Spec L2
def E4:∀(Z ds:List D),b9 Z=cz ds->ds.length=0:=λ_ _ h=>by cases h;rfl
def l7(hr:∀(Z ds:List D),r Z=cz ds->ds.length=n):∀(Z ds:List D),a7 f r Z=cz ds->ds.length=n+1:=λ_ _ h=>b1r hr h
def b3D:∀(Z ds:List D),iI fi Z=cz ds->∀d∈ds,mI d:=λZ ds h d hd=>by
 have:=a5n rfl Z ds h d hd [d] rfl;show imm d=yn;simpa only [g6,gu]using this
def b1w:∀(Z ds:List D),iR fa Z=cz ds->∀d∈ds,mI d:=λZ ds h d hd=>by
 have:=a7f rfl Z ds h d hd [d] rfl;show imm d=yn;simpa only [g6,gu]using this
def b1x(h:cB)(hb:dG<h.objs.size):ObjOk P w H (h.push {cls:=.type "dict",data:=.dict #[]}) h.objs.size (i9 h.objs.size []):=
 ⟨⟨gS.mpr (cV (bI hb)),cG _,bH,_,#[],0,bo _ rfl,⟨rfl,rfl,rfl⟩,rfl,.nil⟩,⟨_,bo _ rfl⟩,λx1 x2 ⟨a1,a2,a3,o',qV,rZ,b1,b2⟩ hk=>⟨a1,a2,a3,o',qV,rZ,hk _ b1,b2⟩⟩
end VS
namespace VS
open L2
section
variable {a b c:EvE}{Z Z':List D}{d x y:D}
def l1(g:D->Option D):Option D->Option D
 |some x=>g x
 |none=>xn
def l2(g:D->D->Option D):Option D->Option D->Option D
 |some x,cz y=>g x y
 |_,_=>xn
def lc(m:List D->Option D):Option (List D)->Option D
 |some xs=>m xs
 |none=>xn
def b3E:Option D->Option (List D)->Option (List D)
 |some x,cz xs=>cz (x::xs)
 |_,_=>xn
def lB:Option D->Option Bool
 |some d=>asB d
 |none=>xn
def lT:Option D->Option Bool
 |some d=>tr d
 |none=>xn
def c1F:Option Bool->Option Bool
 |some b=>cz !b
 |none=>xn
def b9v:Option Bool->EvT->List D->Option Bool
 |some yn,b,Z=>b Z
 |some yH,_,_=>cz yH
 |none,_,_=>xn
def orT:Option Bool->EvT->List D->Option Bool
 |some yn,_,_=>cz yn
 |some yH,b,Z=>b Z
 |none,_,_=>xn
def b9w:Option D->EvE->List D->Option D
 |some (.bool yn),b,Z=>b Z
 |some (.bool yH),_,_=>cz (.bool yH)
 |_,_,_=>xn
def orE:Option D->EvE->List D->Option D
 |some (.bool yn),_,_=>cz (.bool yn)
 |some (.bool yH),b,Z=>b Z
 |_,_,_=>xn
def c1G:Option D->Option D
 |some (.bool b)=>cz (.bool !b)
 |_=>xn
def b9x:Option Bool->EvE->EvE->List D->Option D
 |some yn,a,_,Z=>a Z
 |some yH,_,b,Z=>b Z
 |none,_,_,_=>xn
def b9y:Option Bool->EvS->EvS->List D->Option Out
 |some yn,a,_,Z=>a Z
 |some yH,_,b,Z=>b Z
 |none,_,_,_=>xn
def thn:Option Out->EvS->Option Out
 |some (.nx Z),b=>b Z
 |some (.rt d),_=>cz (.rt d)
 |some (.bk Z),_=>cz (.bk Z)
 |some (.ct Z),_=>cz (.ct Z)
 |none,_=>xn
def b6K(i:Nat):Option D->List D->Option Out
 |some d,Z=>cz (.nx (Z.set i d))
 |none,_=>xn
def retS:Option D->Option Out
 |some d=>cz (.rt d)
 |none=>xn
def exS:Option D->List D->Option Out
 |some _,Z=>cz (.nx Z)
 |none,_=>xn
def b3F(i j:Nat):Option D->List D->Option Out
 |some (.tuple [x,y]),Z=>cz (.nx ((Z.set i x).set j y))
 |_,_=>xn
def c1H(set:List D->D->Option (List D))(g:EvS):Option (List D)->List D->Option Out
 |some ds,Z=>W4 set g ds Z
 |none,_=>xn
def a3w:Option Out->Option D
 |some (.rt d)=>cz d
 |_=>xn
def listE:Option (List D)->Option D
 |some ds=>cz (.list ds)
 |none=>xn
def c1I:Option (List D)->Option D
 |some ds=>cz (.tuple ds)
 |none=>xn
def c3n:l1 g (cz x)=g x:=rfl
def b9z:l2 g (cz x) (cz y)=g x y:=rfl
def c3o:lc m (cz xs)=m xs:=rfl
def b6L:b3E (cz x) (cz xs)=cz (x::xs):=rfl
def c3p:lB (cz (.bool k))=cz k:=rfl
def c3q:lT (cz d)=tr d:=rfl
def b9A:c1F (cz k)=cz !k:=rfl
def b9B:b9v (cz yn) t Z=t Z:=rfl
def b9C:b9v (cz yH) t Z=cz yH:=rfl
def c1J:orT (cz yn) t Z=cz yn:=rfl
def c1K:orT (cz yH) t Z=t Z:=rfl
def b9D:b9w (cz (.bool yn)) b Z=b Z:=rfl
def b9E:b9w (cz (.bool yH)) b Z=cz (.bool yH):=rfl
def c1L:orE (cz (.bool yn)) b Z=cz (.bool yn):=rfl
def c1M:orE (cz (.bool yH)) b Z=b Z:=rfl
def b9F:c1G (cz (.bool k))=cz (.bool !k):=rfl
def b9G:b9x (cz yn) a b Z=a Z:=rfl
def b9H:b9x (cz yH) a b Z=b Z:=rfl
def b9I:b9y (cz yn) s t Z=s Z:=rfl
def b9J:b9y (cz yH) s t Z=t Z:=rfl
def b3G:thn (cz (.nx Z)) s=s Z:=rfl
def b9K:thn (cz (.rt d)) s=cz (.rt d):=rfl
def b9L:thn (cz (.bk Z)) s=cz (.bk Z):=rfl
def b9M:thn (cz (.ct Z)) s=cz (.ct Z):=rfl
def b3H:b6K i (cz d) Z=cz (.nx (Z.set i d)):=rfl
def b9N:retS (cz d)=cz (.rt d):=rfl
def c1N:exS (cz d) Z=cz (.nx Z):=rfl
def b6M:b3F i j (cz (.tuple [x,y])) Z=cz (.nx ((Z.set i x).set j y)):=rfl
def b9O{set:List D->D->Option (List D)}:c1H set g (cz ds) Z=W4 set g ds Z:=rfl
def b9P:a3w (cz (.rt d))=cz d:=rfl
def b0a:listE (cz ds)=cz (.list ds):=rfl
def b9Q:c1I (cz ds)=cz (.tuple ds):=rfl
def v_var:a6 i Z=cz (Z.getD i .none):=rfl
def v_c:eC d Z=cz d:=rfl
def v_1:e1 g a Z=l1 g (a Z):=by unfold e1;cases a Z<;>rfl
def v_2:e2 g a b Z=l2 g (a Z) (b Z):=by unfold e2;cases a Z<;>cases b Z<;>rfl
def c3r:eCl m f Z=lc m (f Z):=by unfold eCl;cases f Z<;>rfl
def b9R:a7 a r Z=b3E (a Z) (r Z):=by unfold a7;cases a Z<;>cases r Z<;>rfl
def b8u:b9 Z=cz []:=rfl
def c3s:tB a Z=lB (a Z):=by unfold tB;cases a Z<;>rfl
def c3t:tV a Z=lT (a Z):=by unfold tV;cases a Z<;>rfl
def c1O:tNo t Z=c1F (t Z):=by unfold tNo;cases t Z<;>rfl
def c1P:tAn s t Z=b9v (s Z) t Z:=by
 unfold tAn;cases s Z with
 |none=>rfl
 |some k=>cases k<;>rfl
def c1Q:a1C s t Z=orT (s Z) t Z:=by
 unfold a1C;cases s Z with
 |none=>rfl
 |some k=>cases k<;>rfl
def v_and:a6Z a b Z=b9w (a Z) b Z:=by
 unfold a6Z;cases h:a Z with
 |none=>rfl
 |some d=>cases d with
  |bool k=>cases k<;>rfl
  |_=>rfl
def v_or:eOr a b Z=orE (a Z) b Z:=by
 unfold eOr;cases h:a Z with
 |none=>rfl
 |some d=>cases d with
  |bool k=>cases k<;>rfl
  |_=>rfl
def v_not:b6z a Z=c1G (a Z):=by
 unfold b6z;cases h:a Z with
 |none=>rfl
 |some d=>cases d<;>rfl
def c3u:eIf t a b Z=b9x (t Z) a b Z:=by
 unfold eIf;cases t Z with
 |none=>rfl
 |some k=>cases k<;>rfl
def b8v:v6 f Z=listE (f Z):=by unfold v6;cases f Z<;>rfl
def c1R:T8 f Z=c1I (f Z):=by unfold T8;cases f Z<;>rfl
def a0w:g9 s t Z=thn (s Z) t:=by
 unfold g9;cases s Z with
 |none=>rfl
 |some o=>cases o<;>rfl
def b3I:j8 i a Z=b6K i (a Z) Z:=by unfold j8;cases a Z<;>rfl
def b0b:u7 a Z=retS (a Z):=by unfold u7;cases a Z<;>rfl
def c3v:sEx a Z=exS (a Z) Z:=by unfold sEx;cases a Z<;>rfl
def b9S:G9 Z=cz (.nx Z):=rfl
def c1S:sIf t s s' Z=b9y (t Z) s s' Z:=by
 unfold sIf;cases t Z with
 |none=>rfl
 |some k=>cases k<;>rfl
def b3J{set:List D->D->Option (List D)}:C6 fi set g Z=c1H set g (fi Z) Z:=by unfold C6;cases fi Z<;>rfl
def b9T:a7i i j a Z=b3F i j (a Z) Z:=by
 unfold a7i;cases h:a Z with
 |none=>rfl
 |some d=>
  match d with
  |.tuple [x,y]=>rfl
  |.tuple []=>rfl
  |.tuple [_]=>rfl
  |.tuple (_::_::_::_)=>rfl
  |.none=>rfl
  |.bool _=>rfl
  |.int _=>rfl
  |.str _=>rfl
  |.list _=>rfl
  |.dict _=>rfl
def B9(h:argsOk us ds=yn):fnD us n g ds=a3w (g (ds++aP n .none)):=by
 unfold fnD;rw[aE h];cases g (ds++aP n .none) with
 |none=>rfl
 |some o=>cases o<;>rfl
def v_add:D7 (.int i) (.int j)=cz (.int (i+j)):=rfl
def v_sub:a1y (.int i) (.int j)=cz (.int (i-j)):=rfl
def v_lt:dLt (.int i) (.int j)=cz (.bool (decide (i<j))):=rfl
def c3w:dLe (.int i) (.int j)=cz (.bool (decide (i<=j))):=rfl
def c3x:dGt (.int i) (.int j)=cz (.bool (decide (j<i))):=rfl
def c3y:dGe (.int i) (.int j)=cz (.bool (decide (j<=i))):=rfl
def v_mod(h:0<j):G8 (.int i) (.int j)=cz (.int (i % j)):=by
 show (if b9m i j=yn then _ else _)=_;rw[aE (show b9m i j=yn from aL h)]
def v_div(h:0<j)(h':j<1073741824):a8w (.int i) (.int j)=cz (.int (i / j)):=by
 show (if b6w i j=yn then _ else _)=_;rw[aE (by unfold b6w;rw[aL h,aL h'];rfl)]
def Y0{i j:Int}(h:i.natAbs<2^64):Q0 (.int i) (.int j)=cz (.int (i*j)):=by
 show (if b1o i j=yn then _ else _)=_;rw[aE (by unfold b1o;rw[aL h];rfl)]
def a6i{i j:Int}(h:j.natAbs<2^64):Q0 (.int i) (.int j)=cz (.int (i*j)):=by
 show (if b1o i j=yn then _ else _)=_;rw[aE (by unfold b1o;rw[aL h,Bool.or_true])]
def v_pow(h:b1p i j=yn):a6Y (.int i) (.int j)=cz (.int (i^j.toNat)):=by
 show (if b1p i j=yn then _ else _)=_;rw[aE h]
def c1T:dEq (.int i) (.int j)=cz (.bool (decide (i=j))):=by
 show cz (cK (yH !=aI (.int i) (.int j)))=_;have:aI (.int i) (.int j)=decide (i=j):=by
  show (i==j)=decide (i=j);exact gz i j
 rw[this];simp
def c1U:dNe (.int i) (.int j)=cz (.bool (!decide (i=j))):=by
 show cz (cK (yn !=aI (.int i) (.int j)))=_;have:aI (.int i) (.int j)=decide (i=j):=by
  show (i==j)=decide (i=j);exact gz i j
 rw[this];simp
def b9U:J8 [.list ds]=cz (.int ds.length):=rfl
def b9V:J8 [.tuple ds]=cz (.int ds.length):=rfl
def c1V:dIx (.list ds) (.int k)=atI ds k:=rfl
def c1W:dIx (.tuple ds) (.int k)=atI ds k:=rfl
def c1X:a4G (.list ds) (.int k)=atI ds k:=rfl
def c1Y:u6 x y=l1 a5Y (dIx x y):=by unfold u6;cases dIx x y<;>rfl
def b3K(h:imm d=yn):a5Y d=cz d:=by unfold a5Y;rw[aE h]
def c1Z:c3m k (.bool i) (.bool j)=cz (.bool (k !=(i==j))):=rfl
def U3:imm (.int i)=yn:=by simp only[imm]
def v7(ns:List Int):g6 (ns.map .int)=yn:=by
 induction ns with
 |nil=>simp only[cW,g6]
 |cons n ns ih=>simp only[ay,g6,imm,ih,eN]
def a1I{α:Type}{xs:List α}(h0:0<=k)(h:k<(xs.length:Int)):atI xs k=cz (xs[k.toNat]'(by lia)):=by
 unfold L2.atI ixN;rw[aE h0,aE h];exact ag (by lia)
def b9W(i:Nat):D->Option D->List D->Option Out
 |.list ds,cz d,Z=>if ds.length<1000000 then cz (.nx (Z.set i (.list (ds++[d])))) else xn
 |_,_,_=>xn
def c2a:Q4 i (.l t) C3 a Z=b9W i (Z.getD i .none) (a Z) Z:=by
 unfold Q4 C3
 dsimp only[fq]
 cases h:Z.getD i .none with
 |list ds=>
  cases a Z with
  |none=>rfl
  |some d=>rfl
 |_=>cases a Z<;>rfl
def a0L{ds:List D}(h:ds.length<1000000):b9W i (.list ds) (cz d) Z=cz (.nx (Z.set i (.list (ds++[d])))):=by
 show (if ds.length<1000000 then cz (Out.nx (Z.set i (.list (ds++[d])))) else xn)=_;rw[aE h]
def a6j(h:a Z=cz (.int n))(h0:0<=n)(h1:n<2^62):iR a Z=cz (l8 0 n.toNat):=by
 unfold iR;rw[h];show (if -(2^62)<=n/\n<2^62 then cz (l8 0 n.toNat) else xn)=_;rw[aE ⟨by lia,h1⟩]
def a8J:(l8 lo n).length=n:=by unfold l8;simp
end
end VS
namespace VS
open PySem.Spec L2
noncomputable def fnN(us:List Ty)(n:Nat)(g:EvS):List D->Option D:=λds=>if argsOk us ds then (g (ds++aP n .none)).bind λo=>match o with
 |.rt d=>cz d
 |.nx _=>cz .none
 |_=>xn
 else xn
section
variable {X:Cx}{M:List Md}{a:Expr}{fa:EvE}{us:List Ty}{u:Ty}{pos p2:fS}
def b3L(ha:PX X M a fa (.new (.tp us)))(hu:us[j]?=cz u:=by rfl):PX X M (.Subscript a (.Constant (.int (j:Nat)) c p2) pos) (e2 dIx fa (eC (.int (j:Nat)))) (.new u):=by
 obtain⟨ta,pa,qa⟩:=ha.out;refine .mk ⟨_,a9S a5Z pa a8j (λ_ _=>rfl),λZ U H P F d Q S hf q=>?_⟩;obtain⟨x,y,h1,h2,h3⟩:=F8 hf;cases h2
 refine qa Z U H P F x _ S h1 λv H1 e1 ⟨fp,o,n,fr⟩=>?_
 simp only[Own]at o;rcases o with⟨_,⟨hi,hn⟩,_⟩|⟨p,xs,ds,rfl,hp,zj,rfl,ot⟩
 ·cases x with
  |tuple ds=>exact (hn _ rfl).elim
  |list ds=>simp only[imm]at hi;cases hi
  |_=>cases h3
 have rW:L2.atI ds (j:Int)=cz d:=h3;unfold L2.atI at rW;obtain⟨k,k1,k2⟩:=bnd rW;have hk:k=j:=by
  unfold ixN at k1;rw[aE (by lia)]at k1;by_cases c:(j:Int)<ds.length
  ·rw[aE c]at k1;have:=aK k1;lia
  ·rw[aM c]at k1;cases k1
 subst hk;obtain⟨v1,f,pre,post,z1,z2,z3,_⟩:=ot.zip hu k2;subst z3;have hlen:xs.length=ds.length:=by rw[ot.len.1,ot.len.2]
 refine .inr ⟨p,xs,(k:Int),v1,rfl,rfl,SqT.of hp,?_,q v1 H1 e1 ⟨f,z2.frame (F6 λa ha=>?_) u λ_ _=>rfl,?_,λa ha=>fr a ?_⟩⟩
 ·unfold L2.atI;rw[hlen,k1];exact z1
 ·rcases av.mp ha with z|z
  ·exact ao _ (ai _ (ao _ z))
  ·exact ai _ z
 ·exact n.sublist ((kz f post).trans (ro pre _))
 ·exact ai _ (ao _ ha)
end
open PyProof.Rows in
def b3M{P:bu}{w:bV}{K:ae}{mg:bA->Option ak}{base:cB}{x:bA}{st:gx}{f:aw}{fd:dU}{N ps:List bA}{k n:Nat}{us:List Ty}{u:Ty}{g:EvS}{M':List Md}(F:Fun K x x st f fd)(S:FnScope N ps (i5 st))(oF:us.length=ps.length)(hn:N.length=ps.length+n)
  (hb:∀(f_:ak) (A:bP) (outer:List nQ) (s:au) (H:Hp) (E:XK),Room k (A.deeper (ju x (i5 st) s.heap.objs.size f f_))->PSsX (a0H CX0 P w K mg base N x (i5 st) f f_ A outer s H E).nox .i [] (us.map .own++aP n .dead) (t9 st) g M') (hu:u=.i:=by rfl) :
  FnOk P w K mg base CX0 (k+1) f fd ps (spD K ps.length (fnN us n g) u):=by
 subst hu;refine F.ok S (λvs H Q E h=>?_) (λf_ A outer s H vs Q E hr h=>?_)
 ·obtain⟨ds,d,hl,_⟩:=h;exact hl
 obtain⟨ds,d,hl,hd,hm,q⟩:=h;obtain⟨t,p,r⟩:=(hb f_ A outer s H E hr).out;refine⟨t,p,?_⟩;unfold fnN at hm;by_cases ha:argsOk us ds=yn
 ·rw[aE ha]at hm;obtain⟨o,h1,h2⟩:=bnd hm;have e:L2.start N vs=vs.map cz++aP n xn:=by
   unfold L2.start;rw[show N.length-vs.length=n by lia]
  have S0:StR K (us.map .own++aP n .dead) (ds++aP n h_) (vs.map cz++aP n xn) H H []:=⟨⟨[],P4 ha hd n,bH,λa ha=>(nomatch ha)⟩,λa ha=>(nomatch ha),by rw[K3];exact Same.refl H⟩;cases o with
  |rt d'=>
   have n_:cz d'=cz d:=h2;cases n_
   rw[e];exact r _ (ds++aP n h_) _ H H [] (.rt d) S0 h1 λv H' fp o nd fr e=>q v H' fp e o nd fr
  |nx Z=>
   have n_:cz h_=cz d:=h2;cases n_
   rw[e];refine r _ (ds++aP n h_) _ H H [] (.nx Z) S0 h1 λU' H' F' S'=>?_
   refine q .non H' [] (S'.prot.trans k7) ?_ bH λa ha=>(nomatch ha)
   simp only[Own];exact⟨trivial,by simp only[imm],den_none⟩
  |_=>cases h2
 ·rw[aM ha]at hm;cases hm
def O3:∀{l:List α} {l':List β},gg R l l'->∀{j:Nat} {x:α},l[j]?=cz x->∃y,l'[j]?=cz y/\R x y:=by
 intro l l' h
 induction h with
 |nil=>intro j x e;simp at e
 |cons r _ ih=>
  intro j x e;cases j with
  |zero=>cases e;exact⟨_,rfl,r⟩
  |succ j=>exact ih (by simpa using e)
def a2n:∀{l:List α} {l':List β},gg R l l'->∀{j:Nat} {y:β},l'[j]?=cz y->∃x,l[j]?=cz x/\R x y:=by
 intro l l' h
 induction h with
 |nil=>intro j x e;simp at e
 |cons r _ ih=>
  intro j x e;cases j with
  |zero=>cases e;exact⟨_,rfl,r⟩
  |succ j=>exact ih (by simpa using e)
section
variable {X:Cx}{pins:List (aw×fV)}{U:L2.St}{H:Hp}{s:au}{A:bP}{E:ak->au->Prop}{a:aw}{es:List (D×V×V)}{o:fV}{ents:Array iP}{ep:Nat}{kt:Bool}{k:D}{kv:V}{key:ak}
def a1J(I:Inv X pins U H s)(kk:keyOk kt k)(dk:Den X.K H kv k)(rk:RelV kv key):∃as,Reads s.heap key k as:=Den.reads I k (W9 _ kk.1) dk rk
def a1K(I:Inv X pins U H s)(hu:A.units+10<dY)(kk:keyOk kt k)(dk:Den X.K H kv k)(rk:RelV kv key)(h:Q (hashD k) {s with toks:=s.toks+r9 k}):aZ (aX X.prog X.w) A (pyHash key) Q E s:=by
 obtain⟨as,r⟩:=a1J I kk dk rk;exact a3h k kk.1 (by have:=kk.2.1;lia) r h
def a1L(I:Inv X pins U H s)(hu:A.units+10<dY)(ho:s.heap.get? a=cz o)(hd:o.data=.dict ents ep)(hp:gg a0v es ents.toList)(hn:(es.map (·.1)).Nodup)(hk:∀e∈es,keyOk kt e.1/\Den X.K H e.2.1 e.1)
  (kk:keyOk kt k) (dk:Den X.K H kv k) (rk:RelV kv key) (kc:(∀e∈es,e.1≠k)->Q xn s) (j_:∀j e,es[j]?=cz e->e.1=k->Q (cz j) s) :
  aZ (aX X.prog X.w) A (dictFind a key (hashD k)) Q E s:=by
 cases kt with
 |false=>
  obtain⟨i,rfl⟩:=kk.2.2.2 rfl;cases dk.int_inv
  obtain⟨t,rfl⟩:=rk;have ent:∀(j:Nat) (x:iP),ents.toList[j]?=cz x->∃e n u,es[j]?=cz e/\e.1=.int n/\x.key=.int n u/\x.hash=hashInt n:=λj x hx=>by
   obtain⟨e,he,h1,h2,_⟩:=a2n hp hx;obtain⟨k1,k2⟩:=hk e (bw he);obtain⟨n,en⟩:=k1.2.2.2 rfl;rw[en]at k2 h1;have e2:=k2.int_inv;rw[e2]at h2;obtain⟨u,sF⟩:=h2;exact⟨e,n,u,he,en,sF,by simpa[hashD]using h1⟩
  show aZ (aX X.prog X.w) A (dictFind a (.int i t) ((ie X.prog X.w).hash i)) Q E s;refine wpAny_dictFind_of (knd:=ie X.prog X.w) (k:=i) (by simp[ie,jO]) ho hd (λx hx=>?_) ?_
  ·obtain⟨j,hj⟩:=cZ.mp (gN.mpr hx);obtain⟨e,n,u,_,_,h3,h4⟩:=ent j x hj;exact⟨n,by rw[h3];simp[ie,jO],h4⟩
  ·cases hf:ents.findIdx? λe=>(ie X.prog X.w).is i e.key with
   |none=>
    refine kc λe he gG=>?_
    obtain⟨j,hj⟩:=cZ.mp he;obtain⟨x,hx,_⟩:=O3 hp hj;obtain⟨e',n,u,h1,h2,h3,_⟩:=ent j x hx;rw[hj]at h1;cases h1
    rw[gG]at h2;cases h2
    have:=Array.findIdx?_eq_none_iff.mp hf x (gN.mp (bw hx));rw[h3]at this;simp[ie,jO]at this
   |some j=>
    obtain⟨jz,vL,_⟩:=Array.findIdx?_eq_some_iff_getElem.mp hf;have hx:ents.toList[j]?=cz ents[j]:=by simp[jz]
    obtain⟨e,n,u,h1,h2,h3,_⟩:=ent j _ hx;have tY:n=i:=by
     rw[h3]at vL;simpa[ie,jO]using vL
    subst tY;exact j_ j e h1 h2
 |true=>
  obtain⟨ds,rfl⟩:=kk.2.2.1 rfl;obtain⟨p,vp,rfl,_,_⟩:=dk.tup_inv;cases (show key=bL p from rk)
  obtain⟨as,CS⟩:=a1J I kk (dk) (show RelV (.ref p) (.ref p) from rfl);have build:∀{es:List (D×V×V)} {l:List iP},gg a0v es l->(∀e∈es,keyOk yn e.1/\Den X.K H e.2.1 e.1)->∃xs:List (D×aw×ak),l=xs.map (λx=>(⟨hashD x.1,.ref x.2.1,x.2.2⟩:iP))/\xs.map (·.1)=es.map (·.1)/\∀x∈xs,C5 x.1=yn/\x.1.depth<=7/\∃as,Reads s.heap (.ref x.2.1) x.1 as:=by
   intro es l hp
   induction hp with
   |nil=>exact λ_=>⟨[],rfl,rfl,λx hx=>(nomatch hx)⟩
   |@cons e x es l r _ ih=>
    intro hk;obtain⟨xs,i1,i2,i3⟩:=ih λe he=>hk e (ax _ he)
    obtain⟨k1,k2⟩:=hk e aN;obtain⟨as,rr⟩:=a1J I k1 k2 r.2.1;obtain⟨ds,ed⟩:=k1.2.2.1 rfl;have:∃q,x.key=.ref q:=by
     rw[ed]at rr;cases Bi:x.key with
     |ref q=>exact⟨q,rfl⟩
     |_=>rw[Bi]at rr;cases rr
    obtain⟨q,hq⟩:=this;refine⟨(e.1,q,x.val)::xs,?_,by rw[ay,ay,i2],λy hy=>?_⟩
    ·rw[ay,<-i1]
     congr 1;obtain⟨xh,xk,xv⟩:=x;simp only at hq;rw[show xh=hashD e.1 from r.1,hq]
    ·rcases aG.mp hy with z|z
     ·subst z;exact⟨k1.1,k1.2.1,as,by rw[hq]at rr;exact rr⟩
     ·exact i3 y z
  obtain⟨xs,x1,x2,x3⟩:=build hp hk;have idx:∀(j:Nat) (kk:D),(∃p,xs[j]?=cz (kk,p))↔∃e,es[j]?=cz e/\e.1=kk:=λj kk=>by
   have:(xs.map (·.1))[j]?=(es.map (·.1))[j]?:=by rw[x2]
   rw[a_,a_]at this
   constructor
   ·rintro⟨q,hq⟩;rw[hq]at this;cases he:es[j]? with
    |none=>rw[he]at this;cases this
    |some e=>rw[he]at this;exact⟨e,rfl,(aK this).symm⟩
   ·rintro⟨e,he,hk⟩;rw[he]at this;cases hx:xs[j]? with
    |none=>rw[hx]at this;cases this
    |some x=>
     rw[hx]at this;have e1:x.1=e.1:=aK this;exact⟨x.2,by rw[<-hk,<-e1]⟩
  refine @wpAny_dictFind_heap X.prog X.w D b1n (b3j X.prog X.w) A E s a p o ents ep xs (.tuple ds) Q (by show A.units+8<dY;lia) ⟨kk.1,kk.2.1,as,CS⟩ ho hd x1 x3 (by rw[x2];exact hn) (λh=>kc λe he gG=>?_) (λj q hj=>?_)
  ·obtain⟨j,hj⟩:=cZ.mp he;obtain⟨q,hq⟩:=(idx j (.tuple ds)).mpr ⟨e,hj,gG⟩;exact h j q hq
  ·obtain⟨e,he,gG⟩:=(idx j (.tuple ds)).mp ⟨q,hj⟩;exact j_ j e he gG
end
def C1(es:List (D×V×V))(k:D):Bool:=es.any λe=>aI e.1 k
def a1e(es:List (D×V×V))(k:D)(kv v:V):List (D×V×V):=if C1 es k then es.map λe=>if aI e.1 k then (e.1,e.2.1,v) else e else es++[(k,kv,v)]
section
variable {X:Cx}{pins:List (aw×fV)}{U:L2.St}{H:Hp}{s:au}{A:bP}{E:ak->au->Prop}{a:aw}{es:List (D×V×V)}{kt:Bool}{k:D}{kv v:V}{key val:ak}
def y8(I:Inv X pins U H s)(h:H a=cz (i9 a es)):(a==dG)=yH/\es.length<=bg/\(es.map (·.1)).Nodup/\∃o ents ep,s.heap.get? a=cz o/\o.ExactDict/\o.data=.dict ents ep/\gg a0v es ents.toList:=
 (show ObjOk X.prog X.w H s.heap a (i9 a es) from I.hok a _ h).1
def p6(I:Inv X pins U H s)(h:H a=cz (i9 a es)):s.TypeIs (.ref a) "dict":=by
 obtain⟨_,_,_,o,ents,ep,h1,h2,_⟩:=y8 I h;exact⟨o,h1,h2.1⟩
def a1f(I:Inv X pins U H s)(h:H a=cz (i9 a es)):∀b,bL a=.ref b->∃ob,s.heap.get? b=cz ob/\ob.dict=xn:=λb q=>by
 cases q
 obtain⟨_,_,_,o,ents,ep,h1,h2,_⟩:=y8 I h;exact⟨o,h1,h2.2.1⟩
def a1M{P:bu}{w:bV}{H':Hp}{h':cB}(hs:(a==dG)=yH)(hl:es.length<=bg)(hn:(es.map (·.1)).Nodup){o:fV}{ents:Array iP}{ep:Nat}(h1:h'.get? a=cz o)(h2:o.ExactDict)(h3:o.data=.dict ents ep)(h4:gg a0v es ents.toList):ObjOk P w H' h' a (i9 a es):=
 ⟨⟨hs,hl,hn,o,ents,ep,h1,h2,h3,h4⟩,⟨o,h1⟩,λx1 x2 ⟨a1,a2,a3,o',qV,rZ,b1,b2⟩ hk=>⟨a1,a2,a3,o',qV,rZ,hk _ b1,b2⟩⟩
structure KeysAt (X:Cx) (H:Hp) (kt:Bool) (es:List (D×V×V)) (k:D) (kv:V):Prop where
 keys:∀e∈es,keyOk kt e.1/\Den X.K H e.2.1 e.1
 key:keyOk kt k
 den:Den X.K H kv k
def KeysAt.eqv(K:KeysAt X H kt es k kv){e:D×V×V}(he:e∈es):aI e.1 k=yn↔e.1=k:=F5 e.1 k (K.keys e he).1.1 K.key.1
def get_dict(I:Inv X pins U H s)(hu:A.units+10<dY)(h:H a=cz (i9 a es))(K:KeysAt X H kt es k kv)(rk:RelV kv key) 
  (kc:C1 es k=yH->∀s',Inv X pins U H s'->Q xn s') (j_:∀e∈es,e.1=k->∀x s',Inv X pins U H s'->RelV e.2.2 x->Q (cz x) s') :
  aZ (aX X.prog X.w) A (Fu a key) Q E s:=by
 obtain⟨_,_,hn,o,ents,ep,h1,h2,h3,h4⟩:=y8 I h;unfold Fu
 try with_reducible refine c_ ?_
 refine af (a1K I hu K.key K.den rk (af (a1L (s:={s with toks:=s.toks+r9 k}) (I.tok (s.toks+r9 k)) hu h1 h3 h4 hn K.keys K.key K.den rk ?_ ?_)))
 ·intro pG;refine aC (kc ?_ _ (I.tok _));unfold C1;rw[eA];exact λe he hq=>pG e he ((K.eqv he).mp hq)
 ·intro j e he gG;obtain⟨x,hx,r⟩:=O3 h4 he;refine af (gP (s:={s with toks:=s.toks+r9 k}) h1 h3 ?_);have:ents[j]?=cz x:=by rw[<-bU];exact hx
  rw[this];exact aC (j_ e (bw he) gG _ _ (I.tok _) r.2.2)
def a3x(hf:C1 es k=yH):a1e es k kv v=es++[(k,kv,v)]:=by unfold a1e;rw[hf];rfl
def a8K{α β:Type}{R:α->β->Prop}{l:List α}{l':List β}(h:gg R l l'){x:α}{y:β}(r:R x y):gg R (l++[x]) (l'++[y]):=by
 induction h with
 |nil=>exact .cons r .nil
 |cons q _ ih=>exact .cons q ih
def b1y(K:KeysAt X H kt es k kv)(hn:(es.map (·.1)).Nodup)(hf:C1 es k=yH):((es++[(k,kv,v)]).map (·.1)).Nodup:=by
 rw[aQ,bR];refine⟨hn,by simp,λx hx y hy e=>?_⟩;simp only[ay,cW,ar]at hy;subst hy;subst e;obtain⟨e,he,rfl⟩:=aJ.mp hx;unfold C1 at hf;rw[eA]at hf;exact hf e he ((K.eqv he).mpr rfl)
def a5p(I:Inv X pins U H s)(h:H a=cz (i9 a es))(K:KeysAt X H kt es k kv)(rk:RelV kv key)(rv:RelV v val)(hl:es.length<bg)(hf:C1 es k=yH){t':Nat}{o:fV}{ents:Array iP}{ep:Nat}(h1:s.heap.get? a=cz o)(h2:o.ExactDict)(h3:o.data=.dict ents ep)(h4:gg a0v es ents.toList) :
  Inv X pins U (upd H a (i9 a (es++[(k,kv,v)]))) {s with heap:=s.heap.update a (·.mapDictKeys (·.push ⟨hashD k,key,val⟩)),toks:=t'}:=by
 obtain⟨hs,_,hn,_⟩:=y8 I h;refine I.write (x:=a) (e:=a) (by rw[h];exact jP) (.inl rfl) (λb q hb z=>((fC ..).2 b hb).trans z) ⟨_,cS _ h1 (kg (ow h3 _))⟩ ?_;refine a1M hs (by simp;lia) (b1y K hn hf) (cS _ h1 (kg (ow h3 _))) (h2.mapDictKeys _) (ow h3 _) ?_;have:=a8K h4 (x:=(k,kv,v)) (y:=⟨hashD k,key,val⟩) ⟨rfl,rk,rv⟩;obtain⟨l⟩:=ents;simpa using this
def b1z(I:Inv X pins U H s)(hu:A.units+10<dY)(h:H a=cz (i9 a es))(K:KeysAt X H kt es k kv)(rk:RelV kv key)(rv:RelV v val)(hl:es.length<bg){Q:ak->au->Prop}
  (kc:C1 es k=yH->∀s',Inv X pins U (upd H a (i9 a (es++[(k,kv,v)]))) s'->Q val s') (j_:∀e∈es,e.1=k->∀x s',Inv X pins U H s'->RelV e.2.2 x->Q x s') :
  aZ (aX X.prog X.w) A (xj a key val) Q E s:=by
 obtain⟨_,_,hn,o,ents,ep,h1,h2,h3,h4⟩:=y8 I h;have jI:ents.size<=bg:=by
  have:=gO h4;have e2:ents.toList.length=ents.size:=by simp
  lia
 unfold xj
 try with_reducible refine c_ ?_
 refine af (a1K I hu K.key K.den rk (af (a1L (s:={s with toks:=s.toks+r9 k}) (I.tok (s.toks+r9 k)) hu h1 h3 h4 hn K.keys K.key K.den rk ?_ ?_)))
 ·intro pG;have hf:C1 es k=yH:=by
   unfold C1;rw[eA];exact λe he hq=>pG e he ((K.eqv he).mp hq)
  refine af (iJ (af (wpAny_updateDictKeys (hz:=jI) (s:={s with toks:=s.toks+r9 k}) h1 h3 (aC (kc hf _ (a5p (t':=s.toks+r9 k) I h K rk rv hl hf h1 h2 h3 h4))))))
 ·intro j e he gG;obtain⟨x,hx,r⟩:=O3 h4 he;refine af (gP (s:={s with toks:=s.toks+r9 k}) h1 h3 ?_);have:ents[j]?=cz x:=by rw[<-bU];exact hx
  rw[this];exact af (iJ (aC (j_ e (bw he) gG _ _ (I.tok (s.toks+r9 k)) r.2.2)))
def a8L(hp:gg a0v es l)(hn:(es.map (·.1)).Nodup)(hk:∀e∈es,aI e.1 k=yn↔e.1=k)(rv:RelV v val):∀{j:Nat} {e:D×V×V},es[j]?=cz e->e.1=k->
  gg a0v (es.map λe=>if aI e.1 k then (e.1,e.2.1,v) else e) (l.modify j λx=>{x with val:=val}):=by
 induction hp with
 |nil=>intro j e he;simp at he
 |@cons e0 x es l r hp ih=>
  intro j e he gG;rw[ay,bY]at hn;have uc:∀e∈es,aI e.1 k=yn↔e.1=k:=λe he=>hk e (ax _ he)
  cases j with
  |zero=>
   cases he
   have h0:aI e0.1 k=yn:=(hk _ aN).mpr gG;have jJ:es.map (λe=>if aI e.1 k then (e.1,e.2.1,v) else e)=es:=by
    have:∀e'∈es,(if aI e'.1 k then (e'.1,e'.2.1,v) else e')=e':=λe' lU=>by
     rw[aM];intro q;exact hn.1 (by rw[gG,<-(uc e' lU).mp q];exact de lU)
    rw[bK this,uJ]
   rw[ay,aE h0,jJ];exact .cons ⟨r.1,r.2.1,rv⟩ hp
  |succ j=>
   have lU:es[j]?=cz e:=by simpa using he
   have jg:¬ aI e0.1 k=yn:=λq=>hn.1 (by rw[(hk _ aN).mp q,<-gG];exact de (bw lU))
   rw[ay,aM jg];exact .cons r (ih hn.2 uc lU gG)
def a7j{es:List (D×V×V)}:(es.map λe=>if aI e.1 k then (e.1,e.2.1,v) else e).map (·.1)=es.map (·.1):=by
 rw[bD];refine bK λe _=>?_
 show (if aI e.1 k then (e.1,e.2.1,v) else e).1=e.1
 split<;>rfl
def set_dict(I:Inv X pins U H s)(hu:A.units+10<dY)(h:H a=cz (i9 a es))(K:KeysAt X H kt es k kv)(rk:RelV kv key)(rv:RelV v val)(hl:es.length<bg){Q:Unit->au->Prop}
  (hQ:∀s',Inv X pins U (upd H a (i9 a (a1e es k kv v))) s'->Q () s'):aZ (aX X.prog X.w) A (dictSet a key val) Q E s:=by
 obtain⟨hs,_,hn,o,ents,ep,h1,h2,h3,h4⟩:=y8 I h;have jI:ents.size<=bg:=by
  have:=gO h4;have e2:ents.toList.length=ents.size:=by simp
  lia
 unfold dictSet
 try with_reducible refine c_ ?_
 refine af (a1K I hu K.key K.den rk ?_);unfold dictSetHashed
 try with_reducible refine c_ ?_
 refine af (a1L (s:={s with toks:=s.toks+r9 k}) (I.tok (s.toks+r9 k)) hu h1 h3 h4 hn K.keys K.key K.den rk ?_ ?_)
 ·intro pG;have hf:C1 es k=yH:=by
   unfold C1;rw[eA];exact λe he hq=>pG e he ((K.eqv he).mp hq)
  rw[a3x hf]at hQ;exact af (iJ (wpAny_updateDictKeys (hz:=jI) (s:={s with toks:=s.toks+r9 k}) h1 h3 (hQ _ (a5p (t':=s.toks+r9 k) I h K rk rv hl hf h1 h2 h3 h4))))
 ·intro j e he gG;have hf:C1 es k=yn:=by
   unfold C1;rw[oZ];exact⟨e,bw he,(K.eqv (bw he)).mpr gG⟩
  have rZ:a1e es k kv v=es.map λe=>if aI e.1 k then (e.1,e.2.1,v) else e:=by unfold a1e;rw[hf];rfl
  rw[rZ]at hQ;refine af (iJ (af (wpAny_updateDict (s:={s with toks:=s.toks+r9 k}) h1 h3 (wpAny_point (hQ _ ?_)))));refine I.write (x:=a) (e:=a) (t':=s.toks+r9 k) (by rw[h];exact jP) (.inl rfl) (λb q hb z=>((fC ..).2 b hb).trans z) ⟨_,cS _ h1 (kg (sj h3 _))⟩ ?_;refine a1M hs (by rw[aj];lia) (by rw[a7j];exact hn) (cS _ h1 (kg (sj h3 _))) (h2.mapDict _) (sj h3 _) ?_;have:=a8L h4 hn (λe he=>K.eqv he) rv he gG;obtain⟨l⟩:=ents;simpa using this
end
def b3N(i:Expr):Prop:=∀ov iv,sv i yH ov iv=operate [ov,iv] (qU ov iv)
open PyProof.Rows in
def c3z{prog:bu}{w:bV}{A:bP}{E:ak->au->Prop}{s:au}{env:nQ}{value slice:Expr}{pos:fS}{T id:String}{Q:ak->au->Prop}
  (hl:typeLookup (.type T) "__getitem__"=pure (cz (.builtin id))) (hs:b3N slice)
  (h:aZ (aX prog w) A (cD value env) (λo s₁=>aZ (aX prog w) A (cD slice env) (λi s₂=>s₂.TypeIs o T/\aZ (aX prog w) A (qU o i) Q E s₂) E s₁) E s) :
  aZ (aX prog w) A (cD (.Subscript value slice pos) env) Q E s:=by
 refine PyProof.Rows.Subscript_ (dh h (λo s₁ h₁=>dh h₁ (λi s₂ h₂=>?_) λ_ _ x=>x) λ_ _ x=>x);obtain⟨hT,h₂⟩:=h₂;unfold subscriptTail;refine af ?_;rw[getitemInPython_of_ne hT.not_modules];refine af (gI hT hl ?_);have fin:aZ (aX prog w) A (sv slice yH o i) (λr s₃=>aZ (aX prog w) A (letTemporaryGo value o r >>= λ_=>pure r) Q E s₃) E s₂:=by
  rw[hs o i];exact wpAny_operating (dh h₂ (λr s₃ h₃=>af (wpAny_letTemporaryGo (aC h₃))) λ_ _ x=>x)
 first
  |exact aC (af fin)
  |exact af (aC (af fin))
  |exact af fin
section
variable {X:Cx}{pins:List (aw×fV)}{U:L2.St}{H:Hp}{s:au}{A:bP}{E:ak->au->Prop}{a:aw}{es:List (D×V×V)}{kt:Bool}{k:D}{kv v:V}{key val:ak}
def a8M(hu:A.units+12<dY)(I:Inv X pins U H s)(h:H a=cz (i9 a es))(K:KeysAt X H kt es k kv)(rk:RelV kv key)(hh:C1 es k=yn)
  (hQ:∀e∈es,e.1=k->∀x s',Inv X pins U H s'->RelV e.2.2 x->Q x s'):aZ (aX X.prog X.w) A (qU (.ref a) key) Q E s:=by
 have hT:=p6 I h;unfold qU
 try with_reducible refine c_ ?_
 refine af (wpAny_sequenceKey hT (by decide) ?_);refine af (fZ (name:=cI "__getitem__") hT slot_dict_getitem (et slot_dict_getitem hT entry_dict_getitem ?_ (args_dict_getitem _ _)));show aZ _ _ (Fu a key >>= _) _ _ s;refine af (get_dict (A:=A.in1) I (by show A.units+1+10<dY;lia) h K rk (λhf=>by rw[hh]at hf;cases hf) λe he gG x s' I' r=>?_);exact aC ⟨x,rfl,aC (hQ e he gG x s' I' r)⟩
def a7k(hu:A.units+12<dY)(I:Inv X pins U H s)(h:H a=cz (i9 a es))(K:KeysAt X H kt es k kv)(rk:RelV kv key)
  (hQ:∀s',Inv X pins U H s'->Q (C1 es k) s'):aZ (aX X.prog X.w) A (contains (.ref a) key) Q E s:=by
 have hT:=p6 I h;obtain⟨hd,_⟩:=y8 I h;unfold contains
 try with_reducible refine c_ ?_
 refine af (gI hT slot_dict_contains.lookup ?_);show aZ _ _ (if (cz (ak.builtin "dict.__contains__")==cz bx)=yn then _ else _) _ E s;rw[aM (by rw[beq_builtin_none];exact cj)];refine af (wpAny_callSpecialUnlessNone?_slot (name:=cI "__contains__") hT slot_dict_contains (et slot_dict_contains hT entry_dict_contains ?_ (args_dict_contains _ _)));show aZ _ _ (Fu a key >>= _) _ _ s;refine af (get_dict (A:=A.in1) I (by show A.units+1+10<dY;lia) h K rk (λhf s' I'=>?_) λe he gG x s' I' r=>?_)
 ·rw[hf]at hQ;show aZ _ _ (Builtin.Dict.pendingKey? a key >>= _) _ _ _;exact af (wpAny_pendingKey_other hd (aC ⟨_,rfl,eJ (hQ s' I')⟩))
 ·have hf:C1 es k=yn:=by
   unfold C1;rw[oZ];exact⟨e,he,(K.eqv he).mpr gG⟩
  rw[hf]at hQ;show aZ _ _ (ret (.bool yn)) _ _ _;exact aC ⟨_,rfl,eJ (hQ s' I')⟩
def b3O(hu:A.units+12<dY)(I:Inv X pins U H s)(h:H a=cz (i9 a es))(K:KeysAt X H kt es k kv)(rk:RelV kv key)
  (hQ:∀s',Inv X pins U H s'->Q (.bool (!C1 es k)) s'):aZ (aX X.prog X.w) A (cH .NotIn key (.ref a)) Q E s:=by
 show aZ _ _ (do return .bool (!(<-contains (.ref a) key))) Q E s;exact af (a7k hu I h K rk λs' I'=>aC (hQ s' I'))
def a8N(hu:A.units+12<dY)(I:Inv X pins U H s)(h:H a=cz (i9 a es))(K:KeysAt X H kt es k kv)(rk:RelV kv key)(rv:RelV v val)(hl:es.length<bg)
  (hQ:∀s',Inv X pins U (upd H a (i9 a (a1e es k kv v))) s'->Q () s'):aZ (aX X.prog X.w) A (setItem (.ref a) key val) Q E s:=by
 have hT:=p6 I h;unfold setItem
 try with_reducible refine c_ ?_
 refine af (wpAny_sequenceKey hT (by decide) ?_);refine af (fZ (name:=cI "__setitem__") hT slot_dict_setitem (et slot_dict_setitem hT entry_dict_setitem ?_ (args_dict_setitem _ _ _)));show aZ _ _ (Builtin.Dict.notOrdered "__setitem__" ⟨[.ref a,key,val],[]⟩ >>= _) _ _ s;refine af (ng hT ?_);show aZ _ _ (dictSet a key val >>= _) _ _ s;exact af (set_dict (A:=A.in1) I (by show A.units+1+10<dY;lia) h K rk rv hl λs' I'=>aC ⟨.none,rfl,aC (hQ s' I')⟩)
def b9X(hu:A.units+12<dY)(I:Inv X pins U H s)(h:H a=cz (i9 a es))(K:KeysAt X H kt es k kv)(rk:RelV kv key)
  (kc:C1 es k=yH->∀s',Inv X pins U H s'->Q .none s') (j_:∀e∈es,e.1=k->∀x s',Inv X pins U H s'->RelV e.2.2 x->Q x s'):aZ (aX X.prog X.w) A (call (.builtin "dict.get") [.ref a,key]) Q E s:=by
 have hT:=p6 I h;obtain⟨hd,_⟩:=y8 I h;refine et F.slot_dict_get hT F.entry_dict_get ?_ (F.args_dict_get_2 _ _);show aZ _ _ (Fu a key >>= _) _ _ s;refine af (get_dict (A:=A.in1) I (by show A.units+1+10<dY;lia) h K rk (λhf s' I'=>?_) λe he gG x s' I' r=>?_)
 ·show aZ _ _ (Builtin.Dict.missed a key >>= _) _ _ _;exact af (wpAny_missed_other hd (aC ⟨.none,rfl,kc hf s' I'⟩))
 ·exact aC ⟨x,rfl,j_ e he gG x s' I' r⟩
def b6N(hu:A.units+12<dY)(I:Inv X pins U H s)(h:H a=cz (i9 a es))(K:KeysAt X H kt es k kv)(rk:RelV kv key)(rv:RelV v val)(hl:es.length<bg)
  (kc:C1 es k=yH->∀s',Inv X pins U (upd H a (i9 a (es++[(k,kv,v)]))) s'->Q val s') (j_:∀e∈es,e.1=k->∀x s',Inv X pins U H s'->RelV e.2.2 x->Q x s') :
  aZ (aX X.prog X.w) A (call (.builtin "dict.setdefault") [.ref a,key,val]) Q E s:=by
 have hT:=p6 I h;obtain⟨hd,_⟩:=y8 I h;refine et F.slot_dict_setdefault hT F.entry_dict_setdefault ?_ (F.args_dict_setdefault_3 _ _ _);unfold Builtin.«dict.setdefault»;refine af ?_;unfold Builtin.Dict.keyAndDefault;refine af (ng hT ?_);show aZ _ _ (pure (a,key,cz val)) _ _ s;refine aC ?_;show aZ _ _ (if (a==dG)=yn then _ else (xj a key val >>= _)) _ _ s;rw[aM (by rw[hd];exact cj)];exact af (b1z (A:=A.in1) I (by show A.units+1+10<dY;lia) h K rk rv hl (λhf s' I'=>aC ⟨_,rfl,kc hf s' I'⟩) λe he gG x s' I' r=>aC ⟨_,rfl,j_ e he gG x s' I' r⟩)
def b9Y(I:Inv X pins U H s)(h:H a=cz (i9 a es))(hQ:∀t s',Inv X pins U H s'->Q (.int es.length t) s'):aZ (aX X.prog X.w) A (call (.builtin "len") [.ref a]) Q E s:=by
 have hT:=p6 I h;obtain⟨hd,hl,_,o,ents,ep,h1,h2,h3,h4⟩:=y8 I h;have jI:ents.size=es.length:=by
  have:=gO h4;have e2:ents.toList.length=ents.size:=by simp
  lia
 have sL:(es.length:Int)<2^63:=by
  have:bg<2^62:=by decide
  lia
 refine Calls.call_function_entry kind_len plain_len entry_len (args_len1 _) ?_;unfold Builtin.«len»;refine af (m:=oneArg "len" _) (aC ?_);refine af (m:=callSpecial? (.ref a) (cI "__len__")) (fZ (name:=cI "__len__") hT uK (et uK hT F.entry_dict_len ?_ (F.args_dict_len_1 _)));show aZ _ _ (dictSize a >>= _) _ _ s;unfold dictSize;refine af (af (gP h1 h3 (aC ?_)));show aZ _ _ (Builtin.Dict.pendingCount a >>= _) _ _ s;refine af (wpAny_pendingCount_other hd ?_);refine wpAny_ret_mkInt ?_;rw[Nat.add_zero,jI];refine af (c_ (aC ?_));refine af (su ?_);show aZ _ _ (if ((es.length:Nat):Int)<0 then _ else _) _ _ _;rw[aM (by lia)];show aZ _ _ (if ((es.length:Nat):Int)≥2^63 then _ else _) _ _ _;rw[aM (by lia)];exact af (wpAny_mkInt (aC ⟨_,rfl,hQ _ _ (I.tok _)⟩))
end
def N0(kvs:List (D×D))(k:D):Bool:=kvs.any λp=>aI p.1 k
def v5(kvs:List (D×D))(k:D):Option D:=(kvs.find? λp=>aI p.1 k).map (·.2)
def M8(kvs:List (D×D))(k d:D):List (D×D):=if N0 kvs k then kvs.map λp=>if aI p.1 k then (p.1,d) else p else kvs++[(k,d)]
def q8(kt:Bool)(k:D):Bool:=C5 k&&decide (k.depth<=7)&&match k with
 |.tuple _=>kt
 |.int _=>!kt
 |_=>yH
def N1(h:q8 kt k=yn):keyOk kt k:=by
 unfold q8 at h;rw[aD,aD]at h;refine⟨h.1.1,bB h.1.2,λe=>?_,λe=>?_⟩
 ·subst e;cases k with
  |tuple ds=>exact⟨ds,rfl⟩
  |int i=>have:=h.2;simp at this
  |_=>have:=h.2;simp at this
 ·subst e;cases k with
  |int i=>exact⟨i,rfl⟩
  |tuple ds=>have:=h.2;simp at this
  |_=>have:=h.2;simp at this
def dIn(neg kt:Bool):D->D->Option D
 |k,.dict kvs=>if q8 kt k then cz (.bool (neg !=N0 kvs k)) else xn
 |_,_=>xn
def a6k(kt:Bool):D->D->Option D
 |.dict kvs,k=>if q8 kt k then v5 kvs k else xn
 |_,_=>xn
def a3y(kt:Bool):D->D->Option D
 |.dict kvs,k=>if q8 kt k then cz ((v5 kvs k).getD .none) else xn
 |_,_=>xn
def b0c:List D->Option D
 |[.dict kvs]=>cz (.int kvs.length)
 |_=>xn
theorem O4:∀{es:List (D×V×V)} {ds:List D},ds.length=es.length->N0 ((es.map (·.1)).zip ds) k=C1 es k
 |[],ds,_=>by simp[N0,C1]
 |e::es,[],h=>by simp at h
 |e::es,d::ds,h=>by
  have ih:=O4 (k:=k) (es:=es) (ds:=ds) (by simpa using h);unfold N0 C1 at ih ⊢;simp only[ay,dq,List.any_cons,ih]
theorem a7l:∀{es:List (D×V×V)} {ds:List D} {j:Nat} {e:D×V×V} {d:D},ds.length=es.length->(∀e∈es,aI e.1 k=yn↔e.1=k)->(es.map (·.1)).Nodup->es[j]?=cz e->e.1=k->ds[j]?=cz d->v5 ((es.map (·.1)).zip ds) k=cz d
 |[],ds,j,e,d,_,_,_,he,_,_=>by simp at he
 |e0::es,[],j,e,d,h,_,_,_,_,_=>by simp at h
 |e0::es,d0::ds,0,e,d,h,hk,_,he,gG,hd=>by
  cases he
  cases hd
  have:aI e0.1 k=yn:=(hk _ aN).mpr gG;simp[v5,this]
 |e0::es,d0::ds,j+1,e,d,h,hk,hn,he,gG,hd=>by
  rw[ay,bY]at hn;have lU:es[j]?=cz e:=by simpa using he
  have ke:ds[j]?=cz d:=by simpa using hd
  have ih:=a7l (k:=k) (by simpa using h) (λe he=>hk e (ax _ he)) hn.2 lU gG ke;have jg:aI e0.1 k=yH:=by
   cases q:aI e0.1 k with
   |false=>rfl
   |true=>exact absurd (by rw[(hk _ aN).mp q,<-gG];exact de (bw lU)) hn.1
  unfold v5 at ih ⊢;simp only[ay,dq,jt,jg];exact ih
def a0j(h:N0 kvs k=yH):v5 kvs k=xn:=by
 unfold N0 at h;rw[eA]at h;unfold v5;rw[nJ.mpr λp hp=>by simpa using h p hp];rfl
def a7m(h:v5 kvs k=cz d):N0 kvs k=yn:=by
 cases q:N0 kvs k with
 |true=>rfl
 |false=>rw[a0j q]at h;cases h
def b1A(h:N0 kvs k=yH):M8 kvs k d=kvs++[(k,d)]:=by unfold M8;rw[h];rfl
def a7n{es:List (D×V×V)}{ds:List D}{k d:D}{kv v:V}(hl:ds.length=es.length):((es++[(k,kv,v)]).map (·.1)).zip (ds++[d])=(es.map (·.1)).zip ds++[(k,d)]:=by
 rw[aQ,List.zip_append (by rw[aj];exact hl.symm)];rfl
theorem a2o{v:V}:∀{es:List (D×V×V)} {ds:List D} {j:Nat} {e:D×V×V},ds.length=es.length->(∀e∈es,aI e.1 k=yn↔e.1=k)->(es.map (·.1)).Nodup->es[j]?=cz e->e.1=k->
  ((es.map (·.1)).zip ds).map (λp=>if aI p.1 k then (p.1,d) else p)=(es.map (·.1)).zip (ds.set j d)
 |[],ds,j,e,_,_,_,he,_=>by simp at he
 |e0::es,[],j,e,h,_,_,_,_=>by simp at h
 |e0::es,d0::ds,0,e,h,hk,hn,he,gG=>by
  cases he
  rw[ay,bY]at hn;have h0:aI e0.1 k=yn:=(hk _ aN).mpr gG;have jJ:((es.map (·.1)).zip ds).map (λp=>if aI p.1 k then (p.1,d) else p)=(es.map (·.1)).zip ds:=by
   have:∀p∈(es.map (·.1)).zip ds,(if aI p.1 k then (p.1,d) else p)=p:=λp hp=>by
    rw[aM];intro q;have hm:=(jq hp).1;obtain⟨e',lU,hq⟩:=aJ.mp hm;have DF:e'.1=p.1:=hq;rw[<-DF]at q;exact hn.1 (by rw[gG,<-(hk e' (ax _ lU)).mp q];exact de lU)
   rw[bK this,uJ]
  simp only[ay,dq,nH,aE h0,jJ]
 |e0::es,d0::ds,j+1,e,h,hk,hn,he,gG=>by
  rw[ay,bY]at hn;have lU:es[j]?=cz e:=by simpa using he
  have ih:=a2o (k:=k) (d:=d) (v:=v) (ds:=ds) (by simpa using h) (λe he=>hk e (ax _ he)) hn.2 lU gG;have jg:¬ aI e0.1 k=yn:=λq=>hn.1 (by rw[(hk _ aN).mp q,<-gG];exact de (bw lU))
  simp only[ay,dq,fX,aM jg,ih]
section
variable {K:ae}{H:Hp}{F:List aw}
theorem Own.dict(h:Own K H F (.d kt u) v d fp):∃a es ds fs,v=.ref a/\H a=cz (i9 a es)/\d=.dict ((es.map (·.1)).zip ds)/\fp=a::fs/\(∀e∈es,keyOk kt e.1/\Den K (cut H F) e.2.1 e.1)/\ListAll (Own K H F u) (es.map (·.2.2)) ds fs/\ds.length=es.length/\(es.map (·.1)).Nodup:=by
 simp only[Own]at h;obtain⟨a,es,ds,fs,h1,h2,h3,h4,h5,h6⟩:=h;exact⟨a,es,ds,fs,h1,h2,h3,h4,h5.2,h6,by have:=h6.length;rw[aj]at this;exact this.symm,h5.1⟩
end
section
variable {X:Cx}{M:List Md}{a b e:Expr}{fa fb:EvE}{ca cb:Cat}{kt:Bool}{u:Ty}{pos:fS}
def keysAt(h:∀e∈es,keyOk kt e.1/\Den X.K (cut H F) e.2.1 e.1)(hk:q8 kt k=yn)(hd:Den X.K H kv k):KeysAt X H kt es k kv:=
 ⟨λe he=>⟨(h e he).1,(h e he).2.up k7⟩,N1 hk,hd⟩
def b6O(X:Cx)(neg:Bool):R2:=λx y H Q=>∃a es kt k,y=.ref a/\H a=cz (i9 a es)/\KeysAt X H kt es k x/\Q (.bl (neg !=C1 es k)) H
def b1B(hu:X.A.units+464<dY):OpR X (cH .NotIn) (b6O X yn):=by
 intro pins s U H x y v w Q I rx ry h;obtain⟨a,es,kt,k,rfl,hH,K,q⟩:=h;cases (show w=bL a from ry)
 exact b3O (by lia) I hH K rx λs' I'=>⟨.bl _,H,I',rfl,by simpa using q⟩
def b3P(h:dIn neg kt k d=cz r):∃kvs,d=.dict kvs/\q8 kt k=yn/\r=.bool (neg !=N0 kvs k):=by
 cases d with
 |dict kvs=>
  have h':(if q8 kt k then cz (cK (neg !=N0 kvs k)) else xn)=cz r:=h;by_cases c:q8 kt k=yn
  ·rw[aE c]at h';exact⟨kvs,rfl,c,(aK h').symm⟩
  ·rw[aM c]at h';cases h'
 |_=>cases h
def b6P(ho:OpR X (cH op) (b6O X neg))(ha:PX X M a fa ca)(hb:PX X M b fb (.bor (.d kt u))){Z:List D}(S:StE X.K M Z U H P F)(e1:Same H H1)(e2:Same H1 H2)
  (r1:ResR X.K ca H H1 F v k) (r2:ResR X.K (.bor (.d kt u)) H1 H2 F w d) (hr:dIn neg kt k d=cz r) (q:Q (.bl (match r with|.bool b=>b|_=>yH)) H2):b6O X neg v w H2 Q:=by
 obtain⟨kvs,rfl,hk,rfl⟩:=b3P hr;obtain⟨fp,o,_⟩:=r2;obtain⟨p,es,ds,fs,rfl,hH,hd,_,h5,_,hl,_⟩:=o.dict;cases hd
 refine⟨p,es,kt,k,rfl,hH,keysAt h5 hk (r1.den.up e2),?_⟩;rw[<-O4 hl];exact q
def b9Z(ho:OpR X (cH op) (b6O X neg))(ha:PX X M a fa ca)(hb:PX X M b fb (.bor (.d kt u)))(hm:iy op b=yH:=by first|exact a8n _|with_unfolding_all rfl):PTX X M (.Compare a [op] [b] pos) (tB (e2 (dIn neg kt) fa fb)):=by
 obtain⟨ta,pa,qa⟩:=ha.out;obtain⟨tb,pb,qb⟩:=hb.out;refine .mk ⟨_,a9Q ho pa pb hm,λZ U H P F k Q S hf q=>?_⟩;obtain⟨d,hf,hk⟩:=bnd hf;cases O2 hk
 obtain⟨x,y,h1,h2,h3⟩:=F8 hf;exact qa Z U H P F x _ S h1 λv H1 e1 r1=>qb Z U H1 P F y _ (S.grow e1) h2 λw H2 e2 r2=>b6P ho ha hb S e1 e2 r1 r2 h3 ⟨k,rfl,q H2 (e1.trans e2)⟩
def c3A(X:Cx)(td ty:TE):TE:=λU H Q=>td U H λx H1=>ty U H1 λy H2=>∃a es kt k,x=.ref a/\H2 a=cz (i9 a es)/\KeysAt X H2 kt es k y/\C1 es k=yn/\∀e∈es,e.1=k->Q e.2.2 H2
def c0a(hu:X.A.units+464<dY)(ho:PE X a td)(hi:PE X b ty)(hs:b3N b):PE X (.Subscript a b pos) (c3A X td ty):=by
 intro pins s U H Q I h;refine c3z PySem.F.slot_dict_getitem.lookup hs (L2.thn (ho pins s U H _ I h) λu s1 ⟨x,H1,I1,rx,q1⟩=>L2.thn (hi pins s1 U H1 _ I1 q1) λiv s2 qz=>?_);obtain⟨y,H2,I2,ry,p,es,kt,k,ex,hH,K,hh,q2⟩:=qz;subst ex;obtain rfl:u=bL p:=rx;exact⟨p6 I2 hH,a8M (by lia) I2 hH K ry hh λe he gG x s3 I3 r3=>⟨e.2.2,H2,I3,r3,q2 e he gG⟩⟩
def b1C(h:a6k kt d k=cz r):∃kvs,d=.dict kvs/\q8 kt k=yn/\v5 kvs k=cz r:=by
 cases d with
 |dict kvs=>
  have h':(if q8 kt k then v5 kvs k else xn)=cz r:=h;by_cases c:q8 kt k=yn
  ·rw[aE c]at h';exact⟨kvs,rfl,c,h'⟩
  ·rw[aM c]at h';cases h'
 |_=>cases h
def a8O{es:List (D×V×V)}{ds:List D}{e:D×V×V}(h6:ListAll (Own X.K H F u) (es.map (·.2.2)) ds fs)(hl:ds.length=es.length)(hn:(es.map (·.1)).Nodup)(K:KeysAt X H kt es k kv)(he:e∈es)(gG:e.1=k) :
  ∃(j:Nat) (d:D) (f:List aw),es[j]?=cz e/\ds[j]?=cz d/\v5 ((es.map (·.1)).zip ds) k=cz d/\Own X.K H F u e.2.2 d f/\∀x∈f,x∈fs:=by
 obtain⟨j,hj⟩:=cZ.mp he;have jz:j<ds.length:=by rw[hl];exact (aO.mp hj).1
 obtain⟨w,f,pre,post,z1,z2,z3,_⟩:=h6.at_ (ag jz);rw[a_,hj]at z1;cases z1
 refine⟨j,ds[j],f,hj,ag jz,a7l hl (λe he=>K.eqv he) hn hj gG (ag jz),z2,λx hx=>?_⟩;rw[z3];exact ai _ (ao _ hx)
end
def a6l:Ty->Bool
 |.i=>yn
 |.f=>yn
 |.l _=>yn
 |_=>yH
def a7o:∀{u:Ty},a6l u=yn->Own K H F u .non .none []
 |.i,_=>by simp only[Own];exact⟨trivial,by simp only[imm],den_none⟩
 |.f,_=>by simp only[Own];exact⟨trivial,den_none⟩
 |.l _,_=>by simp only[Own];exact .inl ⟨trivial,by simp only[imm],den_none⟩
 |.tp _,h=>nomatch h
 |.d _ _,h=>nomatch h
section
variable {X:Cx}{M:List Md}{a b e o:Expr}{es:List Expr}{fa fb:EvE}{ca cb:Cat}{kt:Bool}{u:Ty}{pos apos cJ:fS}{to:TE}{t:TA}{name:bA}{id:String}{r:V->List V->Hp->VK->Prop}
def c0b(hu:X.A.units+464<dY)(ha:PX X M a fa (.bor (.d kt u)))(hb:PX X M b fb cb)(hs:b3N b:=by exact λ_ _=>rfl):PX X M (.Subscript a b pos) (e2 (a6k kt) fa fb) (.bor u):=by
 obtain⟨ta,pa,qa⟩:=ha.out;obtain⟨tb,pb,qb⟩:=hb.out;refine .mk ⟨_,c0a hu pa pb hs,λZ U H P F d Q S hf q=>?_⟩;obtain⟨x,y,h1,h2,h3⟩:=F8 hf;obtain⟨kvs,rfl,hk,hg⟩:=b1C h3;refine qa Z U H P F _ _ S h1 λv H1 e1 ⟨fp,o,sub⟩=>qb Z U H1 P F y _ (S.grow e1) h2 λw H2 e2 r2=>?_
 obtain⟨p,es,ds,fs,rfl,hH,hd,rfl,h5,h6,hl,hn⟩:=(o.grow e2).dict;cases hd
 have K:=keysAt (X:=X) h5 hk r2.den;refine⟨p,es,kt,y,rfl,hH,K,by rw[<-O4 hl];exact a7m hg,λe he gG=>?_⟩;obtain⟨j,d',f,_,_,g',o',s'⟩:=a8O h6 hl hn K he gG;rw[hg]at g';cases g'
 exact q _ H2 (e1.trans e2) ⟨f,o',λx hx=>sub x (ax _ (s' x hx))⟩
def c3B(r:V->List V->Hp->VK->Prop)(to:TE)(t:TA):TE:=λU H Q=>to U H λx H1=>(∃p es,x=.ref p/\H1 p=cz (i9 p es))/\t U H1 λxs H2=>r x xs H2 Q
def a8P(slot:Slot "dict" name id)(yY:typeOf (.builtin id)=pure (.type "method_descriptor"))(hm:MtR X id r)(ho:PE X o to)(ha:PA X (e::es) t)
  (fJ:dZ o name X.env (cD o X.env)=cD o X.env:=by rfl)
  (iQ:((cy cJ (aq (e::es) X.env)).all (λx=>!x.1)&&(eX cJ (dt [] X.env)).all (λx=>x.1.isSome)
   && decide ((e::es).length+([]:List eO).length+(if ([]:List eO).isEmpty then 0 else 1)<30))=yn:=by rfl)
  (fI:(apos.endLine==cJ.line)=yn:=by rfl) (hs:aq (e::es) X.env=(yH,cD e X.env)::aq es X.env:=by rfl) (eG:(cy cJ (aq es X.env)).any (·.1)=yH:=by rfl) :
  PE X (.Call (.Attribute o name apos) (e::es) [] cJ) (c3B r to t):=by
 intro pins s U H Q I h;refine CB fJ iQ fI rfl (L2.thn (ho pins s U H _ I h) λv s1 qz=>?_);obtain⟨x,H1,I1,r1,⟨p,GJ,ex,hH⟩,q1⟩:=qz;subst ex;obtain rfl:v=bL p:=r1;refine⟨"dict",id,sZ,slot,yY,p6 I1 hH,a1f I1 hH,?_⟩;have hA:=ha cJ pins s1 U H1 _ I1 q1;rw[hs]at hA ⊢;refine mP (by show (yH||(cy cJ (aq es X.env)).any (·.1))=yH;rw[eG]<;>rfl) (jS ?_);exact L2.thn hA λus s2 ⟨vs,H2,I2,r2,q2⟩=>hm pins s2 U H2 (.ref p) vs (.ref p) us Q I2 rfl r2 q2
def b8w(X:Cx):V->List V->Hp->VK->Prop:=λx xs H Q=>∃p es kt k y,x=.ref p/\xs=[y]/\H p=cz (i9 p es)/\KeysAt X H kt es k y/\(C1 es k=yH->Q .non H)/\∀e∈es,e.1=k->Q e.2.2 H
def b3Q(hu:X.A.units+464<dY):MtR X "dict.get" (b8w X):=by
 intro pins s U H x xs v us Q I rx rv h;obtain⟨p,es,kt,k,y,rfl,rfl,hH,K,q1,q2⟩:=h;cases (show v=bL p from rx)
 obtain⟨w,rfl,rw⟩:=rv.one;exact b9X (by lia) I hH K rw (λhf s' I'=>⟨.non,H,I',rfl,q1 hf⟩) λe he gG x s' I' r'=>⟨e.2.2,H,I',r',q2 e he gG⟩
def a8Q{d k r:D}(h:a3y kt d k=cz r):∃kvs,d=.dict kvs/\q8 kt k=yn/\r=(v5 kvs k).getD .none:=by
 cases d with
 |dict kvs=>
  have h':(if q8 kt k then cz ((v5 kvs k).getD .none) else xn)=cz r:=h;by_cases c:q8 kt k=yn
  ·rw[aE c]at h';exact⟨kvs,rfl,c,(aK h').symm⟩
  ·rw[aM c]at h';cases h'
 |_=>cases h
def c0c(hu:X.A.units+464<dY)(ha:PX X M a fa (.bor (.d kt u)))(hb:PX X M b fb cb)(pG:a6l u=yn:=by rfl)(fJ:dZ a "get" X.env (cD a X.env)=cD a X.env:=by rfl)
  (iQ:((cy cJ (aq [b] X.env)).all (λx=>!x.1)&&(eX cJ (dt [] X.env)).all (λx=>x.1.isSome)
   && decide (([b]:List Expr).length+([]:List eO).length+(if ([]:List eO).isEmpty then 0 else 1)<30))=yn:=by rfl)
  (fI:(apos.endLine==cJ.line)=yn:=by rfl) (hs:aq [b] X.env=(yH,cD b X.env)::aq [] X.env:=by rfl) (eG:(cy cJ (aq [] X.env)).any (·.1)=yH:=by rfl) :
  PX X M (.Call (.Attribute a "get" apos) [b] [] cJ) (e2 (a3y kt) fa fb) (.bor u):=by
 obtain⟨ta,pa,qa⟩:=ha.out;obtain⟨tb,pb,qb⟩:=hb.out;refine .mk ⟨_,a8P vm vk (b3Q hu) pa (l6 pb o9 hs) fJ iQ fI hs eG,λZ U H P F d Q S hf q=>?_⟩;obtain⟨x,y,h1,h2,h3⟩:=F8 hf;obtain⟨kvs,rfl,hk,rfl⟩:=a8Q h3;refine qa Z U H P F _ _ S h1 λv H1 e1 ⟨fp,o,sub⟩=>?_
 obtain⟨p,es,ds,fs,rfl,hH,_,GK,_⟩:=o.dict;refine⟨⟨p,es,rfl,hH⟩,qb Z U H1 P F y _ (S.grow e1) h2 λw H2 e2 r2=>?_⟩;obtain⟨p',jL,jU,jK,ep,xf,ke,Ax,h5,h6,hl,hn⟩:=(o.grow e2).dict;cases ep
 injection ke with nW
 have K:=keysAt (X:=X) h5 hk r2.den;refine⟨p,jL,kt,y,w,rfl,rfl,xf,K,λhf=>?_,λe he gG=>?_⟩
 ·have:v5 kvs y=xn:=a0j (by rw[nW,O4 hl];exact hf);rw[this]at q;exact q .non H2 (e1.trans e2) ⟨[],a7o pG,λa ha=>(nomatch ha)⟩
 ·obtain⟨j,d',f,_,_,g',o',s'⟩:=a8O h6 hl hn K he gG;rw[nW,g']at q;exact q _ H2 (e1.trans e2) ⟨f,o',λx hx=>sub x (by rw[Ax];exact ax _ (s' x hx))⟩
def b1D:CallR X (.builtin "len") (λxs H Q=>∃p es,xs=[V.ref p]/\H p=cz (i9 p es)/\Q (.int es.length) H):=by
 intro pins s U H xs us Q I rv h;obtain⟨p,es,rfl,hH,q⟩:=h;obtain⟨w,rfl,rw⟩:=rv.one;cases (show w=bL p from rw)
 exact b9Y I hH λt s' I'=>⟨.int es.length,H,I',⟨t,rfl⟩,q⟩
def b6Q(hm:X.mg "len"=xn)(ha:PX X M a fa (.bor (.d kt u)))(hg:Gl X "len":=by rfl)(he:aq [a] X.env=(yH,cD a X.env)::aq [] X.env:=by rfl)(gn:(cy pos (aq [] X.env)).any (·.1)=yH:=by rfl) :
  PX X M (.Call (.Name "len" p) [a] [] pos) (eCl b0c (a7 fa b9)) (.new .i):=by
 obtain⟨ta,pa,qa⟩:=ha.out;refine .mk ⟨_,a0Z b1D hg hm PySem.boot_len (l6 pa o9 he) (by decide) (by decide) he gn,λZ U H P F d Q S hf q=>?_⟩;obtain⟨xs,h1,h2⟩:=bnd hf;obtain⟨x,h3,h4⟩:=bnd h1;obtain⟨kN,h5,h6⟩:=bnd h4;cases h5
 cases h6
 have hx:∃kvs,x=.dict kvs/\d=.int kvs.length:=by
  cases x with
  |dict kvs=>cases h2;exact⟨kvs,rfl,rfl⟩
  |_=>cases h2
 obtain⟨kvs,rfl,rfl⟩:=hx;refine qa Z U H P F _ _ S h3 λv H1 e1 ⟨fp,o,sub⟩=>?_
 obtain⟨p,es,ds,fs,rfl,hH,hd,_,_,_,hl,_⟩:=o.dict
 injection hd with hd
 have hlen:kvs.length=es.length:=by rw[hd,qg,aj,hl,uE]
 refine⟨p,es,rfl,hH,?_⟩;rw[<-hlen];exact q _ H1 e1 (I9 (by simp only[imm]) den_int (S.lst' e1))
def a7p(h:cB)(hb:dG<h.objs.size):ObjOk P w H (h.push {cls:=.type "dict",data:=.dict #[]}) h.objs.size (i9 h.objs.size []):=
 a1M (gS.mpr (cV (bI hb))) (cG _) bH (bo _ rfl) ⟨rfl,rfl,rfl⟩ rfl .nil
def b3R:PE X (.Dict [] [] pos) (λ_ H Q=>∀p,H p=xn->Q (.ref p) (upd H p (i9 p []))):=λpins s U H Q I h=>
 wpAny_Dict_empty ⟨.ref s.heap.objs.size,_,I.laid (a:=s.heap.objs.size) (o:=i9 s.heap.objs.size []) (t':=s.toks) (λ_ _ q=>aF _ q) (aA _) (a7p s.heap I.sysBelow),rfl,h _ (I.hok.fresh (aA _))⟩
def Y1(kt:Bool)(u:Ty):PX X M (.Dict [] [] pos) (eC (.dict [])) (.new (.d kt u)):=by
 refine .mk ⟨_,b3R,λZ U H P F d Q S hf q=>?_⟩;cases hf
 intro p hp;refine q _ _ (l9 hp _) ⟨[p],?_,by simp,λa ha=>by rw[ar.mp ha];exact hp⟩;simp only[Own];exact⟨p,[],[],[],rfl,i6,rfl,rfl,⟨bH,λe he=>(nomatch he)⟩,p7⟩
end
section
variable {K:ae}{H:Hp}{F:List aw}
theorem StE.dict{Z:List D}(S:StE K M Z U H P F)(hm:M[i]?=cz (.own (.d kt u))) :
  ∃a es ds fs,U[i]?=cz (cz (.ref a))/\H a=cz (i9 a es)/\Z.getD i .none=.dict ((es.map (·.1)).zip ds)/\(∀e∈es,keyOk kt e.1/\Den K (cut H F) e.2.1 e.1)/\ListAll (Own K H F u) (es.map (·.2.2)) ds fs/\ds.length=es.length/\(es.map (·.1)).Nodup:=by
 obtain⟨v,f,h1,o,_⟩:=S.get hm;obtain⟨a,es,ds,fs,rfl,h2,h3,_,h5,h6,h7,h8⟩:=o.dict;exact⟨a,es,ds,fs,h1,h2,h3,h5,h6,h7,h8⟩
theorem a7q:∀{es:List (D×V×V)} {j:Nat} {e:D×V×V},(es.map (·.1)).Nodup->(∀e∈es,aI e.1 k=yn↔e.1=k)->es[j]?=cz e->e.1=k->(es.map λe=>if aI e.1 k then (e.1,e.2.1,v) else e).map (·.2.2)=(es.map (·.2.2)).set j v
 |[],j,e,_,_,hj,_=>by simp at hj
 |e0::es,0,e,hn,mE,hj,gG=>by
  rw[ay,bY]at hn;cases hj
  have jJ:es.map (λe=>if aI e.1 k then (e.1,e.2.1,v) else e)=es:=by
   have:∀e'∈es,(if aI e'.1 k then (e'.1,e'.2.1,v) else e')=e':=λe' lU=>by
    rw[aM];intro q;exact hn.1 (by rw[gG,<-(mE e' (ax _ lU)).mp q];exact de lU)
   rw[bK this,uJ]
  rw[ay,aE ((mE _ aN).mpr gG),jJ];rfl
 |e0::es,j+1,e,hn,mE,hj,gG=>by
  rw[ay,bY]at hn;have qP:es[j]?=cz e:=by simpa using hj
  have jg:¬ aI e0.1 k=yn:=λq=>hn.1 (by rw[(mE _ aN).mp q,<-gG];exact de (bw qP))
  rw[ay,aM jg,ay,ay,fX,a7q hn.2 (λe he=>mE e (ax _ he)) qP gG]
def Pend.dput{Z:List D}(h:Pend K ([]++[.own u]) ([]++[d]) ([]++[cz v]) M Z U H P F)(hm:M[i]?=cz (.own (.d kt u)))(hk:keyOk kt k)(Ed:Den K H kv k) :
  ∃a es ds fs,U[i]?=cz (cz (.ref a))/\H a=cz (i9 a es)/\Z.getD i .none=.dict ((es.map (·.1)).zip ds)/\(∀e∈es,keyOk kt e.1/\Den K (cut H F) e.2.1 e.1)/\ListAll (Own K H F u) (es.map (·.2.2)) ds fs/\ds.length=es.length/\(es.map (·.1)).Nodup/\
   StR K M (Z.set i (.dict (M8 ((es.map (·.1)).zip ds) k d))) U (upd H a (i9 a (a1e es k kv v))) P F:=by
 obtain⟨_,_,S⟩:=h;obtain⟨G,h1,h2,h3⟩:=S.all;have nN:StAll K H F (.own u::M) (d::Z) (cz v::U) G:=by simpa using h1
 simp only[StAll]at nN;obtain⟨d',Z',o',U',fv,G2,e1,e2,rfl,⟨v',e3,ov⟩,h5⟩:=nN;cases e1
 cases e2
 cases e3
 obtain⟨dd,oo,f,pre,post,q1,q2,⟨v2,rfl,q3⟩,rfl,q5⟩:=h5.at_ hm;obtain⟨a,es,ds,fs,rfl,r2,r3,rfl,r5,r6,hl,hn⟩:=q3.dict;have wX:a∈F:=h3 a (by simp);have iS:∀o,Same (cut H F) (cut (upd H a o) F):=λo b o' hb=>by
  obtain⟨n1,n2⟩:=m8 hb;exact j7 n1 (by rw[c9 (show b≠a from λz=>n1 (z▸wX))];exact n2)
 have cnt:∀b,b=a->(pre++post).count b=0/\fs.count b=0/\fv.count b=0:=λb e=>by
  subst e;have:=eQ.mp h2 b;simp only[bW,bG,xu]at this ⊢;exact⟨by lia,by lia,by lia⟩
 have kk:∀(l:List aw) (o:HO),(∀b,b=a->l.count b=0)->∀b∈l,upd H a o b=H b:=λl o hc b hb=>c9 λz=>by
  have:=hc b z;rw[jQ]at this;exact this hb
 have Ee:Den K (cut H F) kv k:=Ed.imm_out S.lst k (X0 _ hk.1);have mE:∀e∈es,aI e.1 k=yn↔e.1=k:=λe he=>F5 e.1 k (r5 e he).1.1 hk.1
 have fin:∀(jL:List (D×V×V)) (jU:List D) (jK:List aw),(jL.map (·.1)).Nodup->(∀e∈jL,keyOk kt e.1/\Den K (cut H F) e.2.1 e.1)->ListAll (Own K (upd H a (i9 a jL)) F u) (jL.map (·.2.2)) jU jK->(∀b,jK.count b<=fs.count b+fv.count b)->
   StR K M (Z.set i (.dict ((jL.map (·.1)).zip jU))) U (upd H a (i9 a jL)) P F:=λjL jU jK tY uc ha oV=>by
  have o1:Own K (upd H a (i9 a jL)) F (.d kt u) (.ref a) (.dict ((jL.map (·.1)).zip jU)) (a::jK):=by
   simp only[Own];exact⟨a,jL,jU,jK,rfl,i6,rfl,rfl,⟨tY,λe he=>⟨(uc e he).1,(uc e he).2.up (iS _)⟩⟩,ha⟩
  have q:=q5 (upd H a (i9 a jL)) F (.own (.d kt u)) (.dict ((jL.map (·.1)).zip jU)) (cz (.ref a)) _ (kk _ _ λb e=>(cnt b e).1) (iS _) ⟨_,rfl,o1⟩;rw[set_same (l:=U) q2,set_same (l:=M) hm]at q;refine⟨⟨_,q,X7 h2 λb=>?_,λb hb=>?_⟩,λb hb=>?_,S.prot.trans (iS _)⟩
  ·have:=oV b;simp only[bW,bG,gj];lia
  ·have hc:0<(fv++(pre++(a::fs++post))).count b:=by
    have h0:=fB.mpr hb;have:=oV b;simp only[bW,bG,gj]at h0 ⊢;lia
   exact h3 b (fB.mp hc)
  ·by_cases e:b=a
   ·subst e;exact⟨⟨i9 b jL,trivial⟩,i6⟩
   ·obtain⟨ys,y⟩:=S.lst b hb;exact⟨ys,by rw[c9 e];exact y⟩
 refine⟨a,es,ds,fs,q2,r2,by rw[B7 q1];exact r3,r5,r6,hl,hn,?_⟩;cases hf:C1 es k with
 |false=>
  rw[a3x hf,b1A (by rw[O4 hl];exact hf),<-a7n (kv:=kv) (v:=v) hl];refine fin (es++[(k,kv,v)]) (ds++[d]) (fs++fv) ?_ ?_ ?_ λb=>by rw[bW];exact aA _
  ·rw[aQ,bR];refine⟨hn,by simp,λx hx y hy e=>?_⟩;simp only[ay,cW,ar]at hy;subst hy;subst e;obtain⟨e,he,rfl⟩:=aJ.mp hx;unfold C1 at hf;rw[eA]at hf;exact hf e he ((mE e he).mpr rfl)
  ·intro e he;rcases av.mp he with z|z
   ·exact r5 e z
   ·rw[ar.mp z];exact⟨hk,Ee⟩
  ·rw[aQ];refine (n9 (iS _) r6 (kk _ _ λb e=>(cnt b e).2.1)).append ?_;have:=m9 (R:=Own K (upd H a (i9 a (es++[(k,kv,v)]))) F u) (ov.frame (iS _) u (kk _ _ λb e=>(cnt b e).2.2)) p7
   rwa[bj]at this
 |true=>
  have hh:=hf;unfold C1 at hf;rw[oZ]at hf;obtain⟨e,he,gG⟩:=hf;have wH:=(mE e he).mp gG;obtain⟨j,hj⟩:=cZ.mp he;have rM:j<ds.length:=by rw[hl];exact (aO.mp hj).1
  have tS:a1e es k kv v=es.map λe=>if aI e.1 k then (e.1,e.2.1,v) else e:=by unfold a1e;rw[hh];rfl
  have vV:M8 ((es.map (·.1)).zip ds) k d=(es.map (·.1)).zip (ds.set j d):=by
   unfold M8;rw[O4 hl,hh];exact a2o (v:=v) hl mE hn hj wH
  have sM:(a1e es k kv v).map (·.1)=es.map (·.1):=by rw[tS];exact a7j
  rw[vV,<-sM];obtain⟨w3,f3,a1,a2,s1,s2,Cf,s4⟩:=r6.zip (ag rM);have vO:(a1e es k kv v).map (·.2.2)=(es.map (·.2.2)).set j v:=by
   rw[tS];exact a7q hn mE hj wH
  refine fin (a1e es k kv v) (ds.set j d) (a1++(fv++a2)) (by rw[sM];exact hn) ?_ ?_ λb=>by rw[Cf];simp only[bW];lia
  ·intro e' lU;rw[tS]at lU;obtain⟨e0,BF,rfl⟩:=aJ.mp lU
   split
   ·exact r5 e0 BF
   ·exact r5 e0 BF
  ·rw[vO];have c5:∀b,b=a->(a1++a2).count b=0:=λb e=>by have:=(cnt b e).2.1;rw[Cf]at this;simp only[bW]at this ⊢;lia
   exact s4 _ F v d fv (kk _ _ c5) (iS _) (ov.frame (iS _) u (kk _ _ λb e=>(cnt b e).2.2))
end
def J0(i:Nat)(kt:Bool)(fk fv:EvE):EvS:=λZ=>(fv Z).bind λd=>(fk Z).bind λk=>match Z.getD i .none with
 |.dict kvs=>if q8 kt k&&decide (kvs.length<1000000) then cz (.nx (Z.set i (.dict (M8 kvs k d)))) else xn
 |_=>xn
abbrev EvX:=List D->Option (D×List D)
def E5(kvs:List (D×D))(k d:D):List (D×D):=if N0 kvs k then kvs else kvs++[(k,d)]
def scal:D->Bool
 |.int _=>yn
 |.bool _=>yn
 |.none=>yn
 |_=>yH
def V8(i:Nat)(kt:Bool)(fk fe:EvE):EvX:=λZ=>(fk Z).bind λk=>(fe Z).bind λd=>match Z.getD i .none with
 |.dict kvs=>if q8 kt k&&decide (kvs.length<1000000)&&scal d then cz ((v5 kvs k).getD d,Z.set i (.dict (E5 kvs k d))) else xn
 |_=>xn
def a7r(j:Nat)(f:EvX):EvS:=λZ=>(f Z).bind λp=>match p.2.getD j .none with
 |.list ds=>if ds.length<1000000 then cz (.nx (p.2.set j (.list (ds++[p.1])))) else xn
 |_=>xn
def b3S(f:EvX):EvS:=λZ=>(f Z).bind λp=>cz (.nx p.2)
def b3T(h:scal d=yn)(hd:Den K H v d):∀H',Den K H' v d:=by
 intro H';cases d with
 |int i=>cases hd.int_inv;exact den_int
 |bool i=>cases hd.bool_inv;exact den_bool
 |none=>cases hd.none_inv;exact den_none
 |_=>cases h
def b3U(h:scal d=yn):imm d=yn:=by
 cases d with
 |int i=>simp only[imm]
 |bool i=>simp only[imm]
 |none=>simp only[imm]
 |_=>cases h
def PXE(X:Cx)(M:List Md)(e:Expr)(f:EvX)(u:Ty)(M1:List Md):Prop:=
 ∃t,PE X e t/\∀(Z:List D) (U:L2.St) (H P:Hp) (F:List aw) (d:D) (Z':List D) (Q:VK),StR X.K M Z U H P F->f Z=cz (d,Z')->
  (∀v H' F',Pend X.K ([]++[.own u]) ([]++[d]) ([]++[cz v]) M1 Z' U H' P F'->Q v H')->t U H Q
section
variable {X:Cx}{M M1 ML:List Md}{e k v:Expr}{fk fe fv:EvE}{f:EvX}{ck:Cat}{kt:Bool}{u w:Ty}{pos apos cJ lH:fS}
def c2b(X:Cx)(td ty tv:TE):TS:=λD U H=>tv U H λv H1=>td U H1 λx H2=>ty U H2 λy H3=>∃a es kt k,x=.ref a/\H3 a=cz (i9 a es)/\KeysAt X H3 kt es k y/\es.length<bg/\D.nx U (upd H3 a (i9 a (a1e es k y v)))
def b6R(hu:X.A.units+464<dY)(ho:PE X o td)(hi:PE X k ty)(hv:PE X v tv)(hs:eR v (cz (.Subscript o k lH)) pos.line X.env=pure yH) :
  PS X (.Assign [.Subscript o k lH] v pos) (c2b X td ty tv):=by
 intro pins s U H D I h;refine wpAny_Assign_Subscript (L2.thn (hv pins s U H _ I h) λr s1 ⟨v,H1,I1,rv,q1⟩=>L2.thn (ho pins s1 U H1 _ I1 q1) λu s2 ⟨x,H2,I2,rx,q2⟩=>L2.thn (hi pins s2 U H2 _ I2 q2) λiv s3 qz=>?_) hs;obtain⟨y,H3,I3,ry,a,es,kt,k,ex,hH,K,hl,q3⟩:=qz;subst ex;obtain rfl:u=bL a:=rx;exact a8N (by lia) I3 hH K ry rv hl λs4 I4=>⟨U,_,I4,q3⟩
def a2P(i:Nat)(hu:X.A.units+464<dY)(hk:PX X M1 k fk ck)(hv:PMX X M v fv u M1)(hN:X.N[i]?=cz x:=by rfl)(oE:autoParam (NmV X x) ZY._auto_1)(hm:M1[i]?=cz (.own (.d kt u)):=by rfl)(hs:eR v (cz (.Subscript (.Name x px) k lH)) pos.line X.env=pure yH:=by rfl) :
  PSX X w ML M (.Assign [.Subscript (.Name x px) k lH] v pos) (J0 i kt fk fv) M1:=by
 obtain⟨tv,pv,qv⟩:=hv;obtain⟨tk,pk,qk⟩:=hk.out;refine .mk ⟨_,b6R hu (A5 hN oE.1 oE.2.1 oE.2.2) pk pv hs,λD Z U H P F o S hg kk=>?_⟩;obtain⟨d,h1,g1⟩:=bnd hg;obtain⟨y,h2,g2⟩:=bnd g1;refine qv [] [] [] Z U H P F d _ S.pend h1 λv1 H1 F1 e1 S1=>?_
 obtain⟨a,es,ds,fs,ha,hH,hZ,_⟩:=S1.e.dict hm;rw[hZ]at g2;have nO:(if (q8 kt y&&decide (((es.map (·.1)).zip ds).length<1000000))=yn then cz (Out.nx (Z.set i (.dict (M8 ((es.map (·.1)).zip ds) y d)))) else xn)=cz o:=g2;by_cases c0:(q8 kt y&&decide (((es.map (·.1)).zip ds).length<1000000))=yn
 ·rw[aE c0]at nO;cases nO
  have c:=Bool.and_eq_true_iff.mp c0;refine⟨_,ha,qk Z U H1 P F1 y _ S1.e h2 λkv H2 e2 r2=>?_⟩;obtain⟨a',jL,jU,jK,sP,xf,sQ,hK,_,sL,_,S3⟩:=(S1.grow e2).dput hm (N1 c.1) r2.den;rw[ha]at sP;cases sP
  rw[hZ]at sQ
  injection sQ with sQ
  refine⟨a,jL,kt,y,rfl,xf,keysAt hK c.1 r2.den,?_,kk U _ F1 (by rw[sQ];exact S3)⟩;have hlen:((jL.map (·.1)).zip jU).length=jL.length:=by rw[qg,aj,sL,uE]
  rw[<-hlen,<-sQ];exact jD (bB c.2) (by rw[cY];decide)
 ·rw[aM c0]at nO;cases nO
def c0d(X:Cx):V->List V->Hp->VK->Prop:=λx xs H Q=>∃p es kt k y z,x=.ref p/\xs=[y,z]/\H p=cz (i9 p es)/\KeysAt X H kt es k y/\es.length<bg/\(C1 es k=yH->Q z (upd H p (i9 p (es++[(k,y,z)]))))/\∀e∈es,e.1=k->Q e.2.2 H
def b6S(hu:X.A.units+464<dY):MtR X "dict.setdefault" (c0d X):=by
 intro pins s U H x xs v us Q I rx rv h;obtain⟨p,es,kt,k,y,z,rfl,rfl,hH,K,hl,q1,q2⟩:=h;cases (show v=bL p from rx)
 obtain⟨w1,w2,rfl,r1,r2⟩:=vals2 rv;exact b6N (by lia) I hH K r1 r2 hl (λhf s' I'=>⟨z,_,I',r2,q1 hf⟩) λe he gG x s' I' r'=>⟨e.2.2,H,I',r',q2 e he gG⟩
def a7s(i:Nat)(hu:X.A.units+464<dY)(hk:PX X M k fk (.new .i))(he:PX X M e fe (.new .i))(hN:X.N[i]?=cz x:=by rfl)(oE:autoParam (NmV X x) ZY._auto_1)(hm:M[i]?=cz (.own (.d kt .i)):=by rfl)(fJ:dZ (.Name x px) "setdefault" X.env (cD (.Name x px) X.env)=cD (.Name x px) X.env:=by rfl)
  (iQ:((cy cJ (aq [k,e] X.env)).all (λx=>!x.1)&&(eX cJ (dt [] X.env)).all (λx=>x.1.isSome)
   && decide (([k,e]:List Expr).length+([]:List eO).length+(if ([]:List eO).isEmpty then 0 else 1)<30))=yn:=by rfl)
  (fI:(apos.endLine==cJ.line)=yn:=by rfl) (hs:aq [k,e] X.env=(yH,cD k X.env)::aq [e] X.env:=by rfl) (nT:aq [e] X.env=(yH,cD e X.env)::aq [] X.env:=by rfl) (eG:(cy cJ (aq [e] X.env)).any (·.1)=yH:=by rfl) :
  PXE X M (.Call (.Attribute (.Name x px) "setdefault" apos) [k,e] [] cJ) (V8 i kt fk fe) .i M:=by
 obtain⟨tk,pk,qk⟩:=hk.out;obtain⟨te,pe,qe⟩:=he.out;refine⟨_,a8P PySem.F.slot_dict_setdefault PySem.F.type_dict_setdefault (b6S hu) (A5 hN oE.1 oE.2.1 oE.2.2) (l6 pk (l6 pe o9 nT) hs) fJ iQ fI hs eG,λZ U H P F d Z' Q S hf q=>?_⟩;obtain⟨y,h1,g1⟩:=bnd hf;obtain⟨z,h2,g2⟩:=bnd g1;obtain⟨a,es,ds,fs,ha,hH,hZ,_⟩:=S.toE.dict hm;rw[hZ]at g2;have nO:(if (q8 kt y&&decide (((es.map (·.1)).zip ds).length<1000000)&&scal z)=yn then cz ((v5 ((es.map (·.1)).zip ds) y).getD z,Z.set i (.dict (E5 ((es.map (·.1)).zip ds) y z))) else xn)=cz (d,Z'):=g2;by_cases c:(q8 kt y&&decide (((es.map (·.1)).zip ds).length<1000000)&&scal z)=yn
 ·rw[aE c]at nO
  injection nO with nO
  injection nO with ed eZ
  rw[aD,aD]at c;refine⟨.ref a,ha,⟨a,es,rfl,hH⟩,?_⟩;refine qk Z U H P F y _ S.toE h1 λkv H1 e1 r1=>qe Z U H1 P F z _ (S.grow e1).toE h2 λzv H2 e2 r2=>?_
  have S2:=S.grow (e1.trans e2);have xl:=r1.den.up e2;have own:∀(H':Hp) (F':List aw),Own X.K H' ([]++F') .i zv z []:=λH' F'=>by
   simp only[Own];exact⟨trivial,b3U c.2,b3T c.2 r2.den _⟩
  have S3:=S2.pend.new (Same.refl H2) (own H2 F) bH λa ha=>(nomatch ha)
  obtain⟨a',jL,jU,jK,sP,xf,sQ,h5,h6,hl,hn,S4⟩:=S3.dput hm (N1 c.1.1) xl;rw[ha]at sP;cases sP
  rw[hZ]at sQ
  injection sQ with nW
  have K:KeysAt X H2 kt jL y kv:=keysAt h5 c.1.1 xl;have hlen:jL.length<bg:=by
   have e3:((jL.map (·.1)).zip jU).length=jL.length:=by rw[qg,aj,hl,uE]
   rw[<-e3,<-nW];exact jD (bB c.1.2) (by rw[cY];decide)
  refine⟨a,jL,kt,y,kv,zv,rfl,rfl,xf,K,hlen,λhf=>?_,λe he gG=>?_⟩
  ·have pG:N0 ((es.map (·.1)).zip ds) y=yH:=by rw[nW,O4 hl];exact hf
   have eE:a1e jL y kv zv=jL++[(y,kv,zv)]:=a3x hf;rw[<-eE];have zW:d=z:=by rw[<-ed,a0j pG];rfl
   have Ac:Z'=Z.set i (.dict (M8 ((jL.map (·.1)).zip jU) y z)):=by
    rw[<-eZ,<-nW];unfold E5 M8;rw[pG];rfl
   rw[zW,Ac]at q;exact q zv _ _ (S4.pend.new (Same.refl _) (own _ _) bH λa ha=>(nomatch ha))
  ·obtain⟨j,d',f,_,_,g',o',_⟩:=a8O h6 hl hn K he gG;obtain⟨rfl,o2⟩:=a2l o';have zW:d=d':=by rw[<-ed,nW,g'];rfl
   have Ac:Z'=Z:=by
    rw[<-eZ];unfold E5;rw[a7m (by rw[nW];exact g'),aE rfl,<-hZ];have hi:∃x,Z[i]?=cz x:=by
     obtain⟨G,q1,_⟩:=S.all;obtain⟨d0,_,_,_,_,z1,_⟩:=q1.at_ hm;exact⟨d0,z1⟩
    obtain⟨x,hx⟩:=hi;rw[B7 hx];exact set_same hx
   rw[zW,Ac]at q;exact q _ H2 _ (S2.pend.new (Same.refl _) (by simp only[Own,bM];exact⟨trivial,o2⟩) bH λa ha=>(nomatch ha))
 ·rw[aM c]at nO;cases nO
end
section
variable {X:Cx}{M M1 ML:List Md}{e:Expr}{f:EvX}{u w t:Ty}{pos apos cJ:fS}
def b6T(j:Nat)(he:PXE X M e f t M1)(hN:X.N[j]?=cz x:=by rfl)(oE:autoParam (NmV X x) ZY._auto_1)(zB:M[j]?=cz (.own (.l t)):=by rfl)(hm:M1[j]?=cz (.own (.l t)):=by rfl)(hni:∀Z p,f Z=cz p->p.2.getD j .none=Z.getD j .none)
  (fJ:dZ (.Name x px) "append" X.env (cD (.Name x px) X.env)=cD (.Name x px) X.env:=by rfl)
  (iQ:((cy cJ (aq [e] X.env)).all (λx=>!x.1)&&(eX cJ (dt [] X.env)).all (λx=>x.1.isSome)
   && decide ([e].length+([]:List eO).length+(if ([]:List eO).isEmpty then 0 else 1)<30))=yn:=by rfl)
  (fI:(apos.endLine==cJ.line)=yn:=by rfl) (hs:aq [e] X.env=(yH,cD e X.env)::aq [] X.env:=by rfl) (eG:(cy cJ (aq [] X.env)).any (·.1)=yH:=by rfl)
  (pQ:eR (.Call (.Attribute (.Name x px) "append" apos) [e] [] cJ) xn pos.line X.env=pure yH:=by rfl) :
  PSX X w ML M (.Expr (.Call (.Attribute (.Name x px) "append" apos) [e] [] cJ) pos) (a7r j f) M1:=by
 obtain⟨te,pe,qe⟩:=he;refine .mk ⟨_,P3 (a5a eS ku kr a0b (A5 hN oE.1 oE.2.1 oE.2.2) (l6 pe o9 hs) fJ iQ fI hs eG) pQ,λD Z U H P F o S hg k=>?_⟩;obtain⟨⟨d,Z'⟩,h1,g1⟩:=bnd hg;have vU:=hni Z _ h1;have hl:∃ds,Z'.getD j .none=.list ds/\ds.length<1000000/\o=.nx (Z'.set j (.list (ds++[d]))):=by
  dsimp only at g1
  cases hx:Z'.getD j .none with
  |list ds=>
   rw[hx]at g1;have ye:(if ds.length<1000000 then cz (Out.nx (Z'.set j (.list (ds++[d])))) else xn)=cz o:=g1;by_cases c:ds.length<1000000
   ·rw[aE c]at ye;exact⟨ds,rfl,c,(aK ye).symm⟩
   ·rw[aM c]at ye;cases ye
  |_=>rw[hx]at g1;cases g1
 obtain⟨ds,hZ,hz,rfl⟩:=hl;obtain⟨v,fv,hv,ov,_⟩:=S.toE.get zB;have qO:∃a xs,v=.ref a/\H a=cz (.lst xs):=by
  rw[<-vU]at ov;rw[hZ]at ov;simp only[Own]at ov;rcases ov with⟨_,hi,_⟩|⟨a,xs,_,_,rfl,h2,_⟩
  ·simp only[imm]at hi;cases hi
  ·exact⟨a,xs,rfl,h2⟩
 obtain⟨a,xs,rfl,ha⟩:=qO;refine⟨.ref a,hv,.inl ⟨rfl,xs,SqL.of ha⟩,qe Z U H P F d Z' _ S h1 λv1 H2 F2 S2=>?_⟩;have uY:dAt (.l t) (Z'.getD j .none) []=cz (.l t,.list ds):=by rw[hZ];rfl
 obtain⟨b',kN,e',vz,hl,S3,_⟩:=S2.put hm hv uY (show wk H2 (.ref a) [] (.ref a) from rfl);cases e'
 rw[hZ]at S3;refine⟨a,kN,v1,rfl,rfl,vz,?_,k U _ F2 S3⟩;rw[hl];exact jD hz (by rw[cY];decide)
def a8R(gZ:i≠j):∀Z p,V8 i kt fk fe Z=cz p->p.2.getD j .none=Z.getD j .none:=λZ p h=>by
 obtain⟨k,_,g1⟩:=bnd h;obtain⟨d,_,g2⟩:=bnd g1;have key:∀x:D,(Z.set i x).getD j .none=Z.getD j .none:=λx=>by
  rw[ah,ah,bF gZ]
 cases hx:Z.getD i .none with
 |dict kvs=>
  rw[hx]at g2;have nO:(if (q8 kt k&&decide (kvs.length<1000000)&&scal d)=yn then cz ((v5 kvs k).getD d,Z.set i (.dict (E5 kvs k d))) else xn)=cz p:=g2;by_cases c:(q8 kt k&&decide (kvs.length<1000000)&&scal d)=yn
  ·rw[aE c]at nO;cases nO;exact key _
  ·rw[aM c]at nO;cases nO
 |_=>rw[hx]at g2;cases g2
def c0e(he:PXE X M e f t M1)(hs:eR e xn pos.line X.env=pure yH:=by rfl):PSX X w ML M (.Expr e pos) (b3S f) M1:=by
 obtain⟨te,pe,qe⟩:=he;refine .mk ⟨_,P3 pe hs,λD Z U H P F o S hg k=>?_⟩;obtain⟨⟨d,Z'⟩,h1,g1⟩:=bnd hg;cases g1
 refine qe Z U H P F d Z' _ S h1 λv H' F' S'=>?_
 obtain⟨l1,l2,S2⟩:=S';obtain⟨G,a1,a2,a3⟩:=S2.all;have xq:StAll X.K H' F' (.own t::M1) (d::Z') (cz v::U) G:=by simpa using a1
 simp only[StAll]at xq;obtain⟨d',r',o',s',fv,G2,e1,e2,rfl,_,h5⟩:=xq;cases e1
 cases e2
 exact k U H' F' ⟨⟨G2,h5,(bR.mp a2).2.1,λa ha=>a3 a (ai _ ha)⟩,S2.lst,S2.prot⟩
end
def b3V(i:Nat)(f:EvE):EvS:=λZ=>(f Z).bind λd=>(asI d).bind λn=>(asI (Z.getD i .none)).bind λm=>cz (.nx (Z.set i (.int (m+n))))
section
variable {X:Cx}{M ML:List Md}{e:Expr}{f:EvE}{c:Cat}{u:Ty}{pos pos':fS}
def c0f(i:Nat)(hN:X.N.Nodup)(he:PX X M e f c)(hi:X.N[i]?=cz x:=by rfl)(hx:autoParam (Loc X.env.scope x) ZX._auto_1)(hm:M[i]?=cz (.own .i):=by rfl)(hf:autoParam (X.fn x=yn\/X.env.scope.names.lookup x=cz .local) ZW._auto_1) :
  PSX X u ML M (.AugAssign (.Name x pos') .Add e pos) (b3V i f) M:=by
 obtain⟨te,pe,qe⟩:=he.out;refine .mk ⟨_,b8U hN hi hx pe b8V hf,λD Z U H P F o S hg k=>?_⟩;obtain⟨d,h1,g1⟩:=bnd hg;obtain⟨n,h2,g2⟩:=bnd g1;obtain⟨m,h3,g3⟩:=bnd g2;cases g3
 cases X3 h2
 have h4:=X3 h3;obtain⟨v,fv,hv,ov,_⟩:=S.toE.get hm;rw[h4]at ov;obtain⟨_,_,dv⟩:=a2l ov;have ev:=dv.int_inv;refine⟨v,hv,qe Z U H P F _ _ S.toE h1 λw H1 e1 r1=>⟨m,n,ev,r1.den.int_inv,?_⟩⟩;have S1:=S.grow e1;have:=S1.set (u:=.i) (v:=.int (m+n)) (d:=.int (m+n)) (fp:=[]) hm (Same.refl _) (by simp only[Own,bM];exact⟨trivial,by simp only[imm],den_int⟩) bH λa ha=>(nomatch ha)
 rw[set_same hm]at this;exact k _ _ _ this
end
def intsOf:List D->Option (List Int)
 |[]=>cz []
 |.int i::r=>(intsOf r).map (i::·)
 |_=>xn
def S6(i:Int)(r:List Int):Int:=r.foldl (λa b=>if b>a then b else a) i
def a0x:List D->Option D
 |[.list ds]=>(intsOf ds).bind λis=>match is with
  |[]=>xn
  |i::r=>cz (.int (S6 i r))
 |_=>xn
theorem K8:∀{ds:List D} {is:List Int},intsOf ds=cz is->ds=is.map .int
 |[],is,h=>by cases h;rfl
 |.int i::r,is,h=>by
  obtain⟨js,h1,rfl⟩:=e_.mp (show (intsOf r).map (i::·)=cz is from h);rw[ay,<-K8 h1]
 |.none::_,_,h|.bool _::_,_,h|.str _::_,_,h|.list _::_,_,h|.tuple _::_,_,h|.dict _::_,_,h=>nomatch h
def a0M(is:List Int):intsOf (is.map .int)=cz is:=by
 induction is with
 |nil=>rfl
 |cons i is ih=>show (intsOf (is.map .int)).map (i::·)=_;rw[ih];rfl
theorem b0d:∀(r:List Int) (i:Int),i<=S6 i r/\(∀x∈r,x<=S6 i r)/\(S6 i r=i\/S6 i r∈r)
 |[],i=>⟨xw _,λx hx=>(nomatch hx),.inl rfl⟩
 |y::r,i=>by
  obtain⟨h1,h2,h3⟩:=b0d r (if y>i then y else i);have e:S6 i (y::r)=S6 (if y>i then y else i) r:=rfl;rw[e];refine⟨?_,λx hx=>?_,?_⟩
  ·by_cases c:y>i
   ·rw[aE c]at h1 ⊢;lia
   ·rw[aM c]at h1 ⊢;exact h1
  ·rcases aG.mp hx with z|z
   ·subst z;by_cases c:x>i
    ·rw[aE c]at h1 ⊢;exact h1
    ·rw[aM c]at h1 ⊢;lia
   ·exact h2 x z
  ·rcases h3 with z|z
   ·by_cases c:y>i
    ·rw[aE c]at z ⊢;exact .inr (by rw[z];exact aN)
    ·rw[aM c]at z ⊢;exact .inl z
   ·exact .inr (ax _ z)
section
variable {X:Cx}
def a8S{ns:List Int}:∀{us:List ak},Vals (ns.map V.int) us->∃xs:List (Int×Tok),us=xs.map (λp=>jA p.1 p.2)/\xs.map (·.1)=ns:=by
 induction ns with
 |nil=>intro us r;cases r;exact⟨[],rfl,rfl⟩
 |cons n ns ih=>
  intro us r;cases r with
  |cons r1 r2=>
   obtain⟨t,rfl⟩:=r1;obtain⟨xs,h1,h2⟩:=ih r2;exact⟨(n,t)::xs,by rw[ay,<-h1],by rw[ay,h2]⟩
def b1E(hc:X.calm=yn):CallR X (.builtin "max") (λxs H Q=>∃(p:aw) (i:Int) (r:List Int),xs=[.ref p]/\SqX X.K H p ((i::r).map V.int)/\Q (.int (S6 i r)) H):=by
 intro pins s U H xs us Q I rv h;obtain⟨p,i,r,rfl,hp,q⟩:=h;obtain⟨u,rfl,rx⟩:=vals1 rv;cases (show u=bL p from rx)
 obtain⟨_,its,n,yx,ho⟩:=hp.ok I;obtain⟨ys,h1,h2⟩:=a8S yx;have e1:its.toArray=intItems ys.toArray:=by rw[h1];simp[intItems]
 have hl:s.heap.IsList p (intItems ys.toArray):=⟨_,ho,rfl,n,by rw[<-e1]⟩;have hlen:ys.length=r.length+1:=by have:=dH eh h2;simpa using this
 have num:∀j,j<ys.length->pB ys.toArray j=(i::r).getD j 0:=λj hj=>by
  have:(ys.map (·.1))[j]?=(i::r)[j]?:=by rw[h2]
  unfold pB;rw[ah,<-this];simp
 refine max_intList (I.ok.hd hc) hl (by simp;lia) λv h' tk hv hk=>?_
 obtain⟨t,rfl⟩:=intItems_at hv;obtain⟨b1,b2⟩:=argBest_gt (pB ys.toArray) (ys.toArray.size-1);have jI:ys.toArray.size=r.length+1:=by simp[hlen]
 have hb:argBest (λi j=>decide (pB ys.toArray i>pB ys.toArray j)) (ys.toArray.size-1)<ys.length:=by lia
 have hm:pB ys.toArray (argBest (λi j=>decide (pB ys.toArray i>pB ys.toArray j)) (ys.toArray.size-1))=S6 i r:=by
  obtain⟨g1,g2,g3⟩:=b0d r i;generalize argBest (λi j=>decide (pB ys.toArray i>pB ys.toArray j)) (ys.toArray.size-1)=a at b1 b2 hb;have up:pB ys.toArray a<=S6 i r:=by
   rw[num a hb];have iK:(i::r).getD a 0∈i::r:=by
    rw[ah,ag (by simp;lia)];exact dB _
   rcases aG.mp iK with z|z
   ·rw[z];exact g1
   ·exact g2 _ z
  have dn:S6 i r<=pB ys.toArray a:=by
   have iK:S6 i r∈i::r:=by
    rcases g3 with z|z
    ·rw[z];exact aN
    ·exact ax _ z
   obtain⟨j,hj,ej⟩:=je.mp iK;have qP:j<ys.length:=by simp at hj;lia
   have:=b2 j (by lia);rw[num j qP,ah,ag hj]at this;have e3:((i::r)[j]?).getD 0=(i::r)[j]:=by rw[ag hj];rfl
   simp only[Option.getD_some]at this;lia
  lia
 rw[hm];exact⟨.int (S6 i r),H,I.kept (t':=tk) λb o e=>hk b o e,⟨t,rfl⟩,q⟩
def b0e(hc:X.calm=yn):a3i X (.builtin "max") a0x:=by
 refine⟨_,b1E hc,λxs H ds d Q hd hg q=>?_⟩
 match ds,hg with
 |[.list es],hg=>
  obtain⟨is,h1,g1⟩:=bnd (show (intsOf es).bind _=cz d from hg);cases is with
  |nil=>cases g1
  |cons i r=>
   cases g1
   obtain⟨v,rfl,h⟩:=T9 hd;obtain⟨a,ys,rfl,h2,h3⟩:=h.list_inv;have he:=K8 h1;subst he;have hv:ys=(i::r).map V.int:=by
    clear h1 hg hd h h2 q;generalize (i::r)=l at h3
    induction l generalizing ys with
    |nil=>exact h3.nil_inv
    |cons x l ih=>
     obtain⟨w,rs,rfl,k1,k2⟩:=h3.cons_inv;rw[k1.int_inv,ih _ k2];rfl
   subst hv;exact⟨a,i,r,rfl,h2,q _ (by simp only[imm]) λ_=>den_int⟩
 |[.none],hg|[.bool _],hg|[.str _],hg|[.dict _],hg|[.int _],hg|[.tuple _],hg=>cases hg
 |[],hg=>cases hg
 |d1::_::_,hg=>cases d1<;>cases hg
end
def Itv(K:ae)(a:aw)(n:Nat):It:=
 ⟨λi H=>i<n/\∃xs,SqL K H a xs/\xs.length=n,λi H x H'=>H'=H/\∀xs,SqL K H a xs->xs[n-1-i]?=cz x,λi _=>n<=i⟩
def b3W(a it:aw)(n:Nat):Turn P w K tg (Itv K a n) [it] it (λi h=>i<=n/\h.IsRevIter it a ((n:Int)-1-(i:Int))) where
 mem:=by simp
 obj:=λi h st b hb=>by
  have e:b=it:=by simpa using hb
  subst e;obtain⟨_,o,e,c,d⟩:=st;exact⟨o,e,λv z=>by rw[d]at z;cases z⟩
 keep:=λi h h' st k=>⟨st.1,st.2.at λo e=>k it (by simp) o e⟩
 item:=by
  intro X hP hw hK hc i pins s U H E I hf st hg;subst hP hw hK;obtain⟨hi,xs,hq,pE⟩:=hg;obtain⟨its,rv,p,hz⟩:=I.list hq;have jz:n-1-i<xs.length:=by lia
  obtain⟨u,hu,ru⟩:=rv.get (ag jz);obtain⟨f0,f1,f2,f3,f4,f5⟩:=hf it (by simp);have e:(n:Int)-1-(i:Int)=((n-1-i:Nat):Int):=by lia
  have hit:=st.2;rw[e]at hit;refine wpAny_pyNext_rev_item hit p.isList (x:=u) (by simpa using hu) λh' cL sb=>?_
  have e2:((n-1-i:Nat):Int)-1=(n:Int)-1-((i+1:Nat):Int):=by lia
  rw[e2]at cL;have I1:Inv X pins U H {s with heap:=h'}:=I.turned (t':=s.toks) (λb o hb e=>(sb.2 b hb).trans e) f0 f1 f3 f4 f5;obtain⟨o,eo,c,d⟩:=id cL;exact⟨u,rfl,b2V (s:={s with heap:=h'}) eo c d (by decide) ⟨_,H,I1,ru,⟨rfl,λys hy=>by rw[I.list_inj hy hq];exact ag jz⟩,⟨by lia,cL⟩,λb hb=>(hf b hb).1⟩⟩
 done:=by
  intro X hP hw hK hc i pins s U H E I hf st hg;subst hP hw hK;obtain⟨f0,f1,f2,f3,f4,f5⟩:=hf it (by simp);have hn:n<=i:=hg;have e:(n:Int)-1-(i:Int)=-1:=by have:=st.1;lia
  have hit:=st.2;rw[e]at hit;exact wpAny_pyNext_rev_end (I.ok.hd hc) hit λh' eb=>⟨rfl,I.turned (t':=s.toks) (λb o hb e=>eb b o hb e) f0 f1 f3 f4 f5⟩
 self:=λ_ _ _ _ _ st h=>wpAny_pyIter_revIter st.2 h
def iRv(a:EvE):EvA:=λZ=>(a Z).bind λd=>(asL d).bind λds=>cz ds.reverse
section
variable {X:Cx}{M:List Md}{a b e tg:Expr}{fa fb:EvE}{ca cb:Cat}{pos p apos cJ:fS}
def c2c(K:ae)(ta:TA):TI:=λU H R=>ta U H λvs H1=>∃a xs,vs=[.ref a]/\SqL K H1 a xs/\R (Itv K a xs.length) H1
open PyProof.Rows in
def c0g(hg:Gl X "reversed")(hm:X.mg "reversed"=xn)(ha:PA X [a] ta)(hs:aq [a] X.env=[(yH,cD a X.env)]:=by rfl):PI X tg (.Call (.Name "reversed" p) [a] [] pos) (c2c X.K ta):=by
 intro pins s U H R I h;refine Call_ (a0G I hg hm PyProof.Rows.Boot.«reversed» (gE (L2.thn (ha pos pins s U H _ I h) λus s1 qz=>?_) hs rfl));obtain⟨vs,H1,I1,r1,q1⟩:=qz;obtain⟨l,xs,e,hq,q⟩:=q1;subst e;cases r1 with
 |cons r rr=>
  cases rr
  cases (show _=bL l from r)
  obtain⟨its,rv,pl,hz⟩:=I1.list hq;have hlen:its.toArray.size=xs.length:=by rw[bt];exact rv.length.symm
  refine call_reversed_list pl.isList ?_;refine wpAny_pyIter_revIter (it:=s1.heap.objs.size) (l:=l) (i:=(its.toArray.size:Int)-1) ⟨_,bo _ rfl,rfl,rfl⟩ ?_;refine⟨s1.heap.objs.size,[s1.heap.objs.size],_,_,H1,rfl,I1.kept (t':=s1.toks) λb o e=>aF _ e,b3W l _ xs.length,⟨cG _,?_⟩,λb hb=>?_,q⟩
  ·have e0:(xs.length:Int)-1-((0:Nat):Int)=(its.toArray.size:Int)-1:=by rw[hlen];lia
   rw[e0];exact⟨_,bo _ rfl,rfl,rfl⟩
  ·have e:b=s1.heap.objs.size:=by simpa using hb
   subst e;exact I1.fpOk (aA _) (I1.hok.fresh (aA _))
def b1F{K:ae}{a:aw}{xs:List V}:Walks (Itv K a xs.length) (λH=>SqL K H a xs) xs.reverse where
 go:=λi H h hi=>⟨by simpa using hi,xs,h,rfl⟩
 stop:=λi H h hi=>by show xs.length<=i;simpa using hi
 yld:=λi H x H' h hi y=>by
  refine⟨y.1,?_⟩;have mT:i<xs.length:=by simpa using hi
  rw[List.getElem?_reverse mT];exact y.2 xs h
theorem Y2:∀{ds:List D} {xs:List V},DenAll K H xs ds->DenAll K H xs.reverse ds.reverse
 |[],_,h=>by rw[h.nil_inv];exact denAll_nil
 |d::ds,_,h=>by
  obtain⟨v,r,rfl,h1,h2⟩:=h.cons_inv;rw[kh,kh];exact (Y2 h2).append (denAll_cons h1 denAll_nil)
def b6U(hm:X.mg "reversed"=xn)(h:PX X M a fa ca)(hc:frozen ca:=by trivial)(hg:Gl X "reversed":=by rfl)(he:aq [a] X.env=[(yH,cD a X.env)]:=by rfl)(nX:aq [a] X.env=(yH,cD a X.env)::aq [] X.env:=by rfl) :
  PIX X M tg (.Call (.Name "reversed" p) [a] [] pos) (iRv fa):=by
 obtain⟨t,p,q⟩:=h.out;refine⟨_,c0g hg hm (l6 p o9 nX) he,λZ U H P F ds R S hf k=>?_⟩;obtain⟨d,h1,g1⟩:=bnd hf;obtain⟨es,h2,g2⟩:=bnd g1;cases R9 h2
 cases g2
 refine q Z U H P F _ _ S h1 λv H1 e1 r1=>?_
 obtain⟨aa,xs,rfl,k1,k2⟩:=(a0i hc r1).list_inv;exact⟨aa,xs,rfl,(P9 k1 k7).l,k _ xs.reverse _ H1 e1 b1F (λH2 e2=>(P9 k1 e2).l) (Y2 k2)⟩
def a3z:D->D->Option D
 |.list ds,y=>if bh ds&&y.canLay0&&decide (y.depth<=450) then cz (.int (ds.countP λd=>aI d y)) else xn
 |_,_=>xn
def c0h(K:ae):V->List V->Hp->VK->Prop:=λx xs H Q=>∃p ys ds y d,x=.ref p/\xs=[y]/\SqX K H p ys/\DenAll K H ys ds/\Den K H y d/\bh ds=yn/\d.canLay0=yn/\d.depth<=450/\Q (.int (ds.countP λe=>aI e d)) H
def a6m(r:jc h us ds as):∀{j:Nat} {u:ak},us[j]?=cz u->∃d bs,ds[j]?=cz d/\Reads h u d bs:=by
 induction ds generalizing us as with
 |nil=>intro j u hu;cases r;simp at hu
 |cons d ds ih=>
  intro j u hu;cases r with
  |cons r1 r2=>
   cases j with
   |zero=>cases hu;exact⟨_,_,rfl,r1⟩
   |succ j=>exact ih r2 (by simpa using hu)
open Classical in
noncomputable def b6V(h:cB)(d:D)(u:ak):Bool:=decide (∃d' bs,Reads h u d' bs/\d'.canLay0=yn/\aI d' d=yn)
def b0f{d e:D}(r:Reads h u e bs)(hl:e.canLay0=yn):b6V h d u=aI e d:=by
 unfold b6V;cases q:aI e d with
 |true=>exact @aL _ (_) ⟨e,bs,r,hl,q⟩
 |false=>
  refine @aW _ (_) ?_;rintro⟨d',FC,r1,r2,r3⟩;rw[SeqAt.Reads.unique d' e u _ _ r2 r1 r,q]at r3;cases r3
def b3X(hu:X.A.units+464<dY):MtR X "list.count" (c0h X.K):=by
 intro pins s U H x xs v us Q I rx rv h;obtain⟨p,ys,ds,y,d,rfl,rfl,hp,EA,hd,c1,c2,c3,q⟩:=h;cases (show v=bL p from rx)
 obtain⟨w,rfl,rw⟩:=rv.one;obtain⟨_,its,n,yx,ho⟩:=hp.ok I;obtain⟨as,ra⟩:=DenAll.reads I ds c1 EA yx;obtain⟨bs,rb⟩:=Den.reads I d c2 hd rw;have lay:∀{l:List D} {e:D},bh l=yn->e∈l->e.canLay0=yn:=by
  intro l
  induction l with
  |nil=>intro e _ he;cases he
  |cons x l ih=>
   intro e hl he;simp only[bh,aD]at hl;rcases aG.mp he with z|z
   ·rw[z];exact hl.1
   ·exact ih hl.2 z
 have cnt:∀{us:List ak} {ds:List D} {as:List aw},jc s.heap us ds as->bh ds=yn->us.countP (b6V s.heap d)=ds.countP λe=>aI e d:=by
  intro us ds
  induction ds generalizing us with
  |nil=>intro as r _;cases r;rfl
  |cons d0 ds ih=>
   intro as r hl;simp only[bh,aD]at hl;cases r with
   |cons r1 r2=>rw[FN,FN,ih r2 hl.2,b0f r1 hl.1]
 refine call_meets sX ⟨_,ho,rfl⟩ PySem.F.entry_list_count (PySem.F.args_list_count_2 _ _) (SeqAt.list_countAt p its.toArray n xn #[] w (b6V s.heap d)) ⟨ho,λu sF=>?_,⟨.int _,H,I.tok _,⟨_,rfl⟩,?_⟩⟩
 ·obtain⟨j,hj⟩:=cZ.mp (show u∈its by simpa using sF);obtain⟨e,FC,he,re⟩:=a6m ra hj;have hle:=lay c1 (bw he);rw[b0f re hle];exact se e d X.A.in1 s _ _ _ _ re rb hle c2 (by have:=Nat.min_le_right e.depth d.depth;show X.A.units+1+_<_;lia)
 ·have:=cnt ra c1;simp only[ym];rw[this];exact q
def b3Y(hu:X.A.units+464<dY)(ha:PX X M a fa ca)(hb:PX X M b fb cb)(fJ:dZ a "count" X.env (cD a X.env)=cD a X.env:=by rfl)
  (iQ:((cy cJ (aq [b] X.env)).all (λx=>!x.1)&&(eX cJ (dt [] X.env)).all (λx=>x.1.isSome)
   && decide (([b]:List Expr).length+([]:List eO).length+(if ([]:List eO).isEmpty then 0 else 1)<30))=yn:=by rfl)
  (fI:(apos.endLine==cJ.line)=yn:=by rfl) (hs:aq [b] X.env=(yH,cD b X.env)::aq [] X.env:=by rfl) (eG:(cy cJ (aq [] X.env)).any (·.1)=yH:=by rfl) :
  PX X M (.Call (.Attribute a "count" apos) [b] [] cJ) (e2 a3z fa fb) (.new .i):=by
 obtain⟨ta,pa,qa⟩:=ha.out;obtain⟨tb,pb,qb⟩:=hb.out;refine .mk ⟨_,a5a eS sX PySem.F.type_list_count (b3X hu) pa (l6 pb o9 hs) fJ iQ fI hs eG,λZ U H P F d Q S hf q=>?_⟩;obtain⟨x,y,h1,h2,h3⟩:=F8 hf;have hx:∃ds,x=.list ds/\(bh ds&&y.canLay0&&decide (y.depth<=450))=yn/\d=.int (ds.countP λd=>aI d y):=by
  cases x with
  |list ds=>
   have rW:(if (bh ds&&y.canLay0&&decide (y.depth<=450))=yn then cz (aR (ds.countP λd=>aI d y)) else xn)=cz d:=h3;by_cases c:(bh ds&&y.canLay0&&decide (y.depth<=450))=yn
   ·rw[aE c]at rW;exact⟨ds,rfl,c,(aK rW).symm⟩
   ·rw[aM c]at rW;cases rW
  |_=>cases h3
 obtain⟨ds,rfl,c,rfl⟩:=hx;rw[aD,aD]at c;refine qa Z U H P F _ _ S h1 λv H1 e1 r1=>?_
 obtain⟨p,xs,rfl,k1,k2⟩:=r1.den.list_inv;refine⟨.inl ⟨rfl,xs,k1.l⟩,qb Z U H1 P F y _ (S.grow e1) h2 λw H2 e2 r2=>?_⟩;exact⟨p,xs,ds,w,y,rfl,rfl,P9 k1 e2,k2.up e2,r2.den,c.1.1,c.1.2,bB c.2,q _ H2 (e1.trans e2) (I9 (by simp only[imm]) den_int (S.lst' (e1.trans e2)))⟩
end
def PXL(X:Cx)(M:List Md)(i:Nat)(e:Expr)(f:EvE)(c:Cat):Prop:=
 ∃t,PE X e t/\∀(Z:List D) (U:L2.St) (H P:Hp) (F:List aw) (d:D) (v:V) (Q:VK),StE X.K M Z U H P F->U[i]?=cz (cz v)->Den X.K H v (Z.getD i .none)->f Z=cz d->(∀v H',Same H H'->ResR X.K c H H' F v d->Q v H')->t U H Q
def b6W(X:Cx)(M:List Md)(i:Nat)(es:List Expr)(f:EvA):Prop:=
 ∃t,PA X es t/\∀(Z:List D) (U:L2.St) (H P:Hp) (F:List aw) (ds:List D) (v:V) (Q:List V->Hp->Prop),StE X.K M Z U H P F->U[i]?=cz (cz v)->Den X.K H v (Z.getD i .none)->f Z=cz ds->(∀vs H',Same H H'->DenAll X.K H' vs ds->Q vs H')->t U H Q
section
variable {X:Cx}{M M1 M2 ML M':List Md}{a e e0:Expr}{es:List Expr}{f fa:EvE}{c ca:Cat}{i j:Nat}{u w t:Ty}{x y:bA}{pos p:fS}
def PXL.of(h:PX X M e f c):PXL X M i e f c:=by
 obtain⟨t,p,q⟩:=h.out;exact⟨t,p,λZ U H P F d v Q S _ _ hf k=>q Z U H P F d Q S hf k⟩
def a7t(hN:X.N[i]?=cz x:=by rfl)(hv:autoParam (NmV X x) ZY._auto_1):PXL X M i (.Name x pos) (a6 i) .tmp:=by
 refine⟨_,A5 hN hv.1 hv.2.1 hv.2.2,λZ U H P F d v Q S hs zV hf k=>?_⟩;cases hf
 exact⟨v,hs,k v H (Same.refl _) zV⟩
def a7u:b6W X M i [] b9:=⟨_,o9,λZ U H P F ds v Q S _ _ hf q=>by cases hf;exact q [] H (Same.refl _) denAll_nil⟩
def a0k(ha:PXL X M i a fa ca)(hr:b6W X M i es fr)(hs:aq (a::es) X.env=(yH,cD a X.env)::aq es X.env:=by rfl):b6W X M i (a::es) (a7 fa fr):=by
 obtain⟨ta,pa,qa⟩:=ha;obtain⟨tr,pr,qr⟩:=hr;refine⟨_,l6 pa pr hs,λZ U H P F ds v Q S hv hd hf q=>?_⟩;obtain⟨x,h1,hf⟩:=bnd hf;obtain⟨xs,h2,hf⟩:=bnd hf;cases hf
 exact qa Z U H P F _ v _ S hv hd h1 λv1 H1 e1 r1=>qr Z U H1 P F _ v _ (S.grow e1) hv (hd.up e1) h2 λvs H2 e2 r2=>q (v1::vs) H2 (e1.trans e2) (denAll_cons (r1.den.up e2) r2)
def a7v{k n:Nat}{ps:List bA}{m:List D->Option D}{f:EvA}(W:Has X.prog X.w X.K X.mg X.base x k ps (spD X.K n m u))(hr:Room k X.A)(h:b6W X M i (e0::es) f)(hu:u.shut=yn:=by rfl)(hl:(e0::es).length=n:=by rfl)(hfl:∀Z ds,f Z=cz ds->ds.length=(e0::es).length)
  (hg:Gl X x:=by rfl) (lM:(x==("__debug__":bA))=yH:=by decide) (he:aq (e0::es) X.env=(yH,cD e0 X.env)::aq es X.env:=by rfl) (gn:(cy pos (aq es X.env)).any (·.1)=yH:=by rfl) :
  PXL X M i (.Call (.Name x p) (e0::es) [] pos) (eCl m f) (.new u):=by
 obtain⟨t,pa,qa⟩:=h;refine⟨_,a8t W hr pa hg lM he gn,λZ U H P F d v Q S hv zV hf q=>?_⟩;obtain⟨ds,h1,hf⟩:=bnd hf;refine qa Z U H P F ds v _ S hv zV h1 λvs H1 e1 r1=>?_
 show spD X.K n m u (vs++[]) H1 Q E0;rw[bj];refine⟨ds,d,by rw[r1.length,hfl Z ds h1,hl],r1,hf,λv H' fp e o nd fr=>q v H' (e1.trans e) ⟨fp,o.shut_out (λa ha=>?_) u hu,nd,λa ha=>e1.free (fr a ha)⟩⟩;rcases av.mp ha with z|z
 ·exact o.lst u a z
 ·exact S.lst' (e1.trans e) a z
def a0l(j i:Nat)(f:EvE):EvS:=λZ=>match Z.getD j .none with
 |.list ds=>if ds.length<1000000 then (f (Z.set j (.list (ds++[Z.getD i .none])))).bind λd=>cz (.nx ((Z.set j (.list (ds++[Z.getD i .none]))).set i d)) else xn
 |_=>xn
def b1G(j i:Nat){apos cJ nS:fS}(gZ:i≠j)(ya:X.N.Nodup)(xZ:X.N[j]?=cz x:=by rfl)(x_:X.N[i]?=cz y:=by rfl)(hm:M[j]?=cz (.own (.l t)):=by rfl)(qN:M[i]?=cz (.own t):=by rfl)
  (hL:PXL X (M.set i .dead) i e f (.new t)) (jJ:PSsX X w ML M lI g M')
  (tL:autoParam (NmV X x) ZY._auto_1)
  (qJ:autoParam (NmV X y) ZY._auto_1)
  (DV:autoParam (Loc X.env.scope y) ZX._auto_1) (wC:autoParam (X.fn y=yn\/X.env.scope.names.lookup y=cz .local) ZW._auto_1)
  (fJ:dZ (.Name x px) "append" X.env (cD (.Name x px) X.env)=cD (.Name x px) X.env:=by rfl)
  (iQ:((cy cJ (aq [.Name y py] X.env)).all (λx=>!x.1)&&(eX cJ (dt [] X.env)).all (λx=>x.1.isSome)
   && decide (([.Name y py]:List Expr).length+([]:List eO).length+(if ([]:List eO).isEmpty then 0 else 1)<30))=yn:=by rfl)
  (fI:(apos.endLine==cJ.line)=yn:=by rfl) (hs:aq [.Name y py] X.env=(yH,cD (.Name y py) X.env)::aq [] X.env:=by rfl) (eG:(cy cJ (aq [] X.env)).any (·.1)=yH:=by rfl)
  (pQ:eR (.Call (.Attribute (.Name x px) "append" apos) [.Name y py] [] cJ) xn pos.line X.env=pure yH:=by rfl) (tN:eR e (cz (.Name y pz)) nS.line X.env=pure yH:=by rfl) :
  PSsX X w ML M (.Expr (.Call (.Attribute (.Name x px) "append" apos) [.Name y py] [] cJ) pos::.Assign [.Name y pz] e nS::lI) (g9 (a0l j i f) g) M':=by
 obtain⟨te,pe,qe⟩:=hL;obtain⟨tr,pr,qr⟩:=jJ.out;refine .mk ⟨_,Q9 (P3 (a5a eS ku kr a0b (A5 xZ tL.1 tL.2.1 tL.2.2) (l6 (A5 x_ qJ.1 qJ.2.1 qJ.2.2) o9 hs) fJ iQ fI hs eG) pQ) (Q9 (a8k ya x_ DV pe tN wC) pr),λD Z U H P F o S hg k=>?_⟩;obtain⟨o1,h1,g1⟩:=bnd hg;have hl:∃ds d,Z.getD j .none=.list ds/\ds.length<1000000/\f (Z.set j (.list (ds++[Z.getD i .none])))=cz d/\o1=.nx ((Z.set j (.list (ds++[Z.getD i .none]))).set i d):=by
  unfold a0l at h1;cases hx:Z.getD j .none with
  |list ds=>
   rw[hx]at h1;have nN:(if ds.length<1000000 then (f (Z.set j (.list (ds++[Z.getD i .none])))).bind λd=>cz (Out.nx ((Z.set j (.list (ds++[Z.getD i .none]))).set i d)) else xn)=cz o1:=h1;by_cases c:ds.length<1000000
   ·rw[aE c]at nN;obtain⟨d,z1,z2⟩:=bnd nN;exact⟨ds,d,rfl,c,z1,(aK z2).symm⟩
   ·rw[aM c]at nN;cases nN
  |_=>rw[hx]at h1;cases h1
 obtain⟨ds,d,hZ,hz,Ew,rfl⟩:=hl;obtain⟨vj,fj,tK,yE,_⟩:=S.toE.get hm;have qO:∃a xs,vj=.ref a/\H a=cz (.lst xs):=by
  rw[hZ]at yE;simp only[Own]at yE;rcases yE with⟨_,hi,_⟩|⟨a,xs,_,_,rfl,h2,_⟩
  ·simp only[imm]at hi;cases hi
  ·exact⟨a,xs,rfl,h2⟩
 obtain⟨a,xs,rfl,ha⟩:=qO;obtain⟨vi,rG,S1⟩:=S.pend.move qN;have sJ:(M.set i .dead)[j]?=cz (.own (.l t)):=by rw[bF gZ];exact hm
 have uY:dAt (.l t) (Z.getD j .none) []=cz (.l t,.list ds):=by rw[hZ];rfl
 obtain⟨b',kN,e',vz,hlen,S3,_⟩:=S1.put sJ tK uY (show wk H (.ref a) [] (.ref a) from rfl);cases e'
 rw[hZ]at S3;refine⟨.ref a,tK,.inl ⟨rfl,xs,SqL.of ha⟩,vi,rG,a,kN,vi,rfl,rfl,vz,by rw[hlen];exact jD hz (by rw[cY];decide),?_⟩;have AE:StR X.K (M.set i .dead) (Z.set j (.list (ds++[Z.getD i .none]))) U (upd H a (.lst (kN++[vi]))) P F:=S3;have kT:Den X.K (upd H a (.lst (kN++[vi]))) vi (Z.getD i .none):=by
  obtain⟨v2,f2,uS,o2,_⟩:=AE.toE.get sJ;rw[tK]at uS;cases uS
  have ma:∃x,Z[j]?=cz x:=by
   obtain⟨G,q1,_⟩:=S.all;obtain⟨d0,_,_,_,_,z1,_⟩:=q1.at_ hm;exact⟨d0,z1⟩
  obtain⟨x0,sD⟩:=ma;have rM:j<Z.length:=(aO.mp sD).1;have Ek:(Z.set j (.list (ds++[Z.getD i .none]))).getD j .none=.list (ds++[Z.getD i .none]):=by
   rw[ah,dM rM];rfl
  rw[Ek]at o2;simp only[Own]at o2;rcases o2 with⟨_,hi,_⟩|⟨a2,ys,es,fs,ea,h2,ed,_,la⟩
  ·simp only[imm]at hi;cases hi
  ·cases ea
   cases ed
   rw[i6]at h2;cases h2
   have rK:kN.length=ds.length:=hlen;obtain⟨v3,f3,_,_,e3,d3,_⟩:=la.at_ (k:=ds.length) (d:=Z.getD i .none) (by simp);rw[<-rK,cQ (aA _),lg]at e3;cases e3
   exact d3.den
 have El:(Z.set j (.list (ds++[Z.getD i .none]))).getD i .none=Z.getD i .none:=by
  rw[ah,ah,bF (cV gZ)]
 refine qe _ U _ P F d vi _ AE.toE rG (by rw[El];exact kT) Ew λv4 H4 e4 r4=>?_
 obtain⟨fp,o4,n4,f4⟩:=r4;have DU:(M.set i .dead)[i]?=cz .dead:=by
  have nu:i<M.length:=(aO.mp qN).1;rw[dM nu]
 have S5:=AE.set DU e4 o4 n4 f4;rw[List.set_set,set_same qN]at S5;exact qr D _ _ _ P _ o S5 g1 k
end
def b6X{X:Cx}{pins:List (aw×fV)}{U:L2.St}{H:Hp}{s:au}{h':cB}{t':Nat}{ch:List aw}{T:aw}{xs:List V}(I:Inv X pins U H s)(k:∀b o,b∉ch->s.heap.get? b=cz o->h'.get? b=cz o)
  (hf:∀b∈ch,a4z X pins H b) (hT:s.heap.objs.size<=T) (new:ObjOk X.prog X.w (upd H T (.tup xs)) h' T (.tup xs)):Inv X pins U (upd H T (.tup xs)) {s with heap:=h',toks:=t'}:=by
 have hn:H T=xn:=I.hok.fresh hT;have neT:∀b o,s.heap.get? b=cz o->b≠T:=λb o e z=>absurd (bb (aS e) (by rw[z];exact hT)) (dA _)
 have qH:∀b u,H b=cz u->b∉ch:=λb u e hb=>by rw[(hf b hb).1]at e;cases e
 refine I.step (g':=s.gens) (d':=s.drawn) (ch:=ch) (λb hb=>⟨(hf b hb).2.2.2.1,(hf b hb).2.1,(hf b hb).2.2.2.2.1,(hf b hb).2.2.2.2.2⟩) (λb o _ _ hc e _=>k b o hc e) (λb o _ _ hc e _=>⟨o.slots,k b o hc e⟩) (λb o _ e n=>by rw[c9 (neT b o e)];exact n)
  (λb o hc e=>⟨o,k b o hc e⟩) (λb ys e=>by rw[c9 (j6 e hn)];exact e) (λb o u e=>by rw[c9 (j6 e hn)];exact e) (λb ps e=>⟨#[],by rw[c9 (j6 e hn),e];simp⟩) (λm hm=>?_) (λb u e=>?_) I.bare
 ·obtain⟨o,es,ep,ho,r⟩:=hm;exact⟨o,es,ep,k _ o (λhb=>(hf _ hb).2.1 rfl) ho,r⟩
 ·by_cases hb:b=T
  ·subst hb;rw[i6]at e;cases e;exact new
  ·rw[c9 hb]at e;refine (I.hok b u e).stay (λc v hc q=>k c v ?_ q) (λc q=>by rw[c9 (j6 q hn)];exact q) λc ys q=>by rw[c9 (j6 q hn)];exact q
   rcases hc with z|z
   ·rw[z];exact qH b u e
   ·exact qH c _ z
def b6Y{X:Cx}{pins:List (aw×fV)}{U:L2.St}{H:Hp}{s:au}{h':cB}{t':Nat}{ch:List aw}(I:Inv X pins U H s)(k:∀b o,b∉ch->s.heap.get? b=cz o->h'.get? b=cz o)
  (hf:∀b∈ch,a4z X pins H b):Inv X pins U H {s with heap:=h',toks:=t'}:=by
 have qH:∀b u,H b=cz u->b∉ch:=λb u e hb=>by rw[(hf b hb).1]at e;cases e
 refine I.step (g':=s.gens) (d':=s.drawn) (ch:=ch) (λb hb=>⟨(hf b hb).2.2.2.1,(hf b hb).2.1,(hf b hb).2.2.2.2.1,(hf b hb).2.2.2.2.2⟩) (λb o _ _ hc e _=>k b o hc e) (λb o _ _ hc e _=>⟨o.slots,k b o hc e⟩) (λb o _ e n=>n)
  (λb o hc e=>⟨o,k b o hc e⟩) (λb ys e=>e) (λb o u e=>e) (λb ps e=>⟨#[],by rw[e];simp⟩) (λm hm=>?_) (λb u e=>?_) I.bare
 ·obtain⟨o,es,ep,ho,r⟩:=hm;exact⟨o,es,ep,k _ o (λhb=>(hf _ hb).2.1 rfl) ho,r⟩
 ·refine (I.hok b u e).stay (λc v hc q=>k c v ?_ q) (λc q=>q) λc ys q=>q
  rcases hc with z|z
  ·rw[z];exact qH b u e
  ·exact qH c _ z
def Ite(K:ae)(a:aw):It:=
 ⟨λi H=>∃xs x,SqL K H a xs/\xs[i]?=cz x,λi H x H'=>∃T y,H T=xn/\H'=upd H T (.tup [.int i,y])/\x=.ref T/\∀xs,SqL K H a xs->xs[i]?=cz y,λi H=>∃xs,SqL K H a xs/\xs.length<=i⟩
def b1H{P:bu}{w:bV}{K:ae}{elts:List Expr}{kk:Nat}{lH:fS}(a e it:aw)(Ey:e≠it):Turn P w K (.Tuple elts kk lH) (Ite K a) [e,it] e (λi h=>(∃old,IsEnum h e it i old)/\h.IsListIter it a i) where
 mem:=by simp
 obj:=λi h st b hb=>by
  obtain⟨⟨old,he⟩,o,eo,c,d⟩:=st;rcases aG.mp hb with rfl|hb
  ·exact⟨_,he,λv z=>by cases z⟩
  ·cases ar.mp hb
   exact⟨o,eo,λv z=>by rw[d]at z;cases z⟩
 keep:=λi h h' st k=>by
  obtain⟨⟨old,he⟩,hit⟩:=st;exact⟨⟨old,k e (by simp) _ he⟩,hit.at λo x=>k it (by simp) o x⟩
 item:=by
  intro X hP hw hK hc i pins s U H E I hf st hg;subst hP hw hK;obtain⟨xs,x,hq,hx⟩:=hg;obtain⟨its,rv,p,hz⟩:=I.list hq;obtain⟨u,hu,ru⟩:=rv.get hx;obtain⟨⟨old,he⟩,hit⟩:=st;have hle:a≠e:=λz=>by
   obtain⟨o,eo,c,_⟩:=p.isList;rw[z,he]at eo;cases eo
   exact absurd (show fK "enumerate"=fK "list" from c) (by decide)
  have DZ:a≠it:=λz=>by
   obtain⟨o,eo,c,_⟩:=p.isList;obtain⟨o2,Fj,c2,_⟩:=hit;rw[z,Fj]at eo;cases eo
   rw[c2]at c;exact absurd c (by decide)
  have W:=WalksT.enumerate (prog:=X.prog) (w:=X.w) (A:=X.A) (I.ok.hd hc) e it a Ey hle DZ its.toArray;have nu:i<its.toArray.size:=by
   have:=(aO.mp hu).1;simpa using this
  refine W.item i s _ E nu ⟨⟨old,he⟩,hit,p.isList⟩ λT vals h' tk hP hT yZ xb hk=>⟨.ref T,rfl,W.go elts kk lH i T {s with heap:=h',toks:=tk} _ E xb λh2 vT wu=>?_⟩
  obtain⟨t,y,hy,rfl⟩:=hP;have ey:y=u:=by
   have h1:its[i]?=cz y:=by simpa using hy
   rw[hu]at h1;exact (aK h1).symm
  subst ey;have BN:=W.apart i T h' xb;obtain⟨oT,eT,cT⟩:=yZ;have hn:H T=xn:=I.hok.fresh hT;have new:ObjOk X.prog X.w (upd H T (.tup [.int i,x])) h2 T (.tup [.int i,x]):=by
   refine⟨by rw[cY];show 2<=_;decide,[.int i t,y],?_,oT,wu T oT BN eT,cT⟩;exact .cons ⟨t,rfl⟩ (.cons ru .nil)
  refine⟨.ref T,upd H T (.tup [.int i,x]),b6X (s:=s) (t':=tk) I (λb o hb q=>wu b o hb (hk b o hb q)) hf hT new,rfl,⟨T,x,hn,rfl,rfl,λys vK=>by rw[I.list_inj vK hq];exact hx⟩,⟨vT.1,vT.2.1⟩,λb hb=>?_⟩;rw[c9 (λz=>BN (by rw[<-z];exact hb))];exact (hf b hb).1
 done:=by
  intro X hP hw hK hc i pins s U H E I hf st hg;subst hP hw hK;obtain⟨xs,hq,hx⟩:=hg;obtain⟨its,rv,p,hz⟩:=I.list hq;have hl:=rv.length;obtain⟨⟨old,he⟩,hit⟩:=st;exact wpAny_pyNext_enum_end (I.ok.hd hc) he hit p.isList (fY (by simp;lia)) λh' hx=>⟨rfl,b6Y (t':=s.toks) I (λb o hb y=>hx b o (λz=>hb (by simp[z])) y) hf⟩
 self:=λ_ _ _ _ _ st h=>by
  obtain⟨⟨old,he⟩,_⟩:=st;exact wpAny_pyIter_enum he h
def J9:List D->Nat->List D
 |[],_=>[]
 |d::ds,k=>.tuple [.int k,d]::J9 ds (k+1)
def iEn(a:EvE):EvA:=λZ=>(a Z).bind λd=>(asL d).bind λds=>cz (J9 ds 0)
theorem a3A:∀(ds:List D) (k:Nat),(J9 ds k).length=ds.length
 |[],_=>rfl
 |d::ds,k=>by show (J9 ds (k+1)).length+1=_;rw[a3A ds];rfl
theorem a3B:∀(ds:List D) (k i:Nat) (d:D),ds[i]?=cz d->(J9 ds k)[i]?=cz (.tuple [.int ((k+i:Nat):Int),d])
 |[],_,i,d,h=>by simp at h
 |d0::ds,k,0,d,h=>by
  have:d0=d:=by simpa using h
  subst this;rfl
 |d0::ds,k,i+1,d,h=>by
  have:=a3B ds (k+1) i d (by simpa using h);show (J9 ds (k+1))[i]?=_;rw[this,gr,jE 1]
section
variable {X:Cx}{M ML:List Md}{a e iter:Expr}{elts:List Expr}{kk:Nat}{lH pos p:fS}{fa:EvE}{ca:Cat}{u:Ty}{body:List gx}{g:EvS}
def c3C(K:ae)(ta:TA):TI:=λU H R=>ta U H λvs H1=>∃a xs,vs=[.ref a]/\SqL K H1 a xs/\R (Ite K a) H1
open PyProof.Rows in
def b6Z(hg:Gl X "enumerate")(hm:X.mg "enumerate"=xn)(ha:PA X [a] ta)(hs:aq [a] X.env=[(yH,cD a X.env)]:=by rfl):PI X (.Tuple elts kk lH) (.Call (.Name "enumerate" p) [a] [] pos) (c3C X.K ta):=by
 intro pins s U H R I h;refine Call_ (a0G I hg hm PyProof.Rows.Boot.«enumerate» (gE (L2.thn (ha pos pins s U H _ I h) λus s1 qz=>?_) hs rfl));obtain⟨vs,H1,I1,r1,q1⟩:=qz;obtain⟨l,xs,e,hq,q⟩:=q1;subst e;cases r1 with
 |cons r rr=>
  cases rr
  cases (show _=bL l from r)
  obtain⟨its,rv,pl,hz⟩:=I1.list hq;refine call_enumerate_list pl.isList λh' he hit jI hk=>?_
  refine wpAny_pyIter_enum he ?_;refine⟨s1.heap.objs.size+1,[s1.heap.objs.size+1,s1.heap.objs.size],_,_,H1,rfl,I1.kept (t':=s1.toks) hk,b1H l _ _ (Nat.succ_ne_self _),⟨⟨_,he⟩,hit⟩,λb hb=>?_,q⟩;have va:s1.heap.objs.size<=b:=by
   rcases aG.mp hb with z|z
   ·rw[z];exact xt _
   ·rw[ar.mp z];exact aA _
  exact I1.fpOk va (I1.hok.fresh va)
def c2d(X:Cx)(M:List Md)(tg iter:Expr)(f:EvE):Prop:=
 ∃wi,PI X tg iter wi/\∀(Z:List D) (U:L2.St) (H P:Hp) (F:List aw) (ds:List D) (R:It->Hp->Prop),StE X.K M Z U H P F->f Z=cz (.list ds)->
  (∀a xs H1,Same H H1->(∀H2,Same (cut H1 F) H2->SqL X.K H2 a xs)->DenAll X.K (cut H1 F) xs ds->R (Ite X.K a) H1)->wi U H R
def c0i(hm:X.mg "enumerate"=xn)(h:PX X M a fa ca)(hc:frozen ca:=by trivial)(hg:Gl X "enumerate":=by rfl)(he:aq [a] X.env=[(yH,cD a X.env)]:=by rfl)(nX:aq [a] X.env=(yH,cD a X.env)::aq [] X.env:=by rfl) :
  c2d X M (.Tuple elts kk lH) (.Call (.Name "enumerate" p) [a] [] pos) fa:=by
 obtain⟨t,p,q⟩:=h.out;refine⟨_,b6Z hg hm (l6 p o9 nX) he,λZ U H P F ds R S hf k=>?_⟩;refine q Z U H P F _ _ S hf λv H1 e1 r1=>?_
 obtain⟨aa,xs,rfl,k1,k2⟩:=(a0i hc r1).list_inv;exact⟨aa,xs,rfl,(P9 k1 k7).l,k _ xs H1 e1 (λH2 e2=>(P9 k1 e2).l) k2⟩
def b3Z{Z ps:List D}(h:iI f Z=cz ps):f Z=cz ps:=by
 obtain⟨ds,h1,g1⟩:=bnd h;by_cases c:g6 ds=yn
 ·have:(if g6 ds=yn then cz ds else xn)=cz ps:=g1;rw[aE c]at this;rw[h1,this]
 ·have:(if g6 ds=yn then cz ds else xn)=cz ps:=g1;rw[aM c]at this;cases this
def a6n{set:List D->D->Option (List D)}{m:D->Prop}(hc:X.calm=yn)(hp:oJ (aX X.prog X.w) X.A X.env X.xe)(hi:c2d X M tg iter fa)(hg:PG X tg gt)(hs:b3B X.K M MB gt set m)(hm:∀Z ds,fi Z=cz ds->∀d∈ds,m d)(Et:∀{Z ps},fi Z=cz ps->iEn fa Z=cz ps)(hb:PSsX X u M MB body g M)
  (hf:∀x,eK iter X.env x=pure x:=by intro _;rfl):PSX X u ML M (.For tg iter body [] pos) (C6 fi set g) M:=by
 obtain⟨wi,pi,qi⟩:=hi;obtain⟨tb,pb,qb⟩:=hb.out;refine .mk ⟨_,a8m hp hc pi hg pb hf,λD Z U H P F o S oG k=>?_⟩;obtain⟨ps,h1,g1⟩:=bnd oG;obtain⟨d0,h2,g2⟩:=bnd (Et h1);obtain⟨ds,h3,g3⟩:=bnd g2;cases R9 h3
 have xP:J9 ds 0=ps:=aK g3;refine qi Z U H P F ds _ S.toE h2 λa xs H1 e1 rJ hx=>?_
 have S1:=S.grow e1;have pE:=hx.length;have gn:ps.length=ds.length:=by rw[<-xP,a3A]
 refine⟨λi n U' H'=>n=xs.length-i/\i<=xs.length/\∃Z' F',StR X.K M Z' U' H' (cut H1 F) F'/\W4 set g (ps.drop i) Z'=cz o,⟨xs.length,by simp,cG _,Z,F,⟨S1.all,S1.lst,Same.refl _⟩,g1⟩,?_⟩;rintro i n U' H' ⟨rfl,hi,Z',F',S',hfl⟩;have nU:Same (cut H1 F) (cut H' F'):=S'.prot;have q:=rJ H' (nU.trans k7);by_cases jz:i<xs.length
 ·refine .inr ⟨⟨xs,xs[i],q,ag jz⟩,λU2 H2=>∃Z2 F2,StR X.K M Z2 U2 H2 (cut H1 F) F2/\W4 set g (ps.drop (i+1)) Z2=cz o,λU2 H2 ⟨Z2,F2,S2,h2⟩=>⟨xs.length-(i+1),by lia,rfl,jz,Z2,F2,S2,h2⟩,λx H2 hy=>?_⟩;obtain⟨T,y,hT,rfl,rfl,yT⟩:=hy;have qI:=yT xs q;have nu:i<ps.length:=by lia
  have nY:ps.drop i=ps[i]::ps.drop (i+1):=dP nu;rw[nY]at hfl;obtain⟨Z1,uU,g4⟩:=bnd (show (set Z' ps[i]).bind _=cz o from hfl);obtain⟨o1,hg1,g5⟩:=bnd g4;obtain⟨d',rQ,sO⟩:=(hx.up nU).getV qI;have sH:ps[i]=.tuple [.int (i:Nat),d']:=by
   have:=a3B ds 0 i d' rQ;rw[xP,ag nu,iA]at this;exact aK this
  have sR:Same H' (upd H' T (.tup [.int i,y])):=l9 hT _;have S2:=S'.grow sR;have EO:T∉F':=λz=>by
   obtain⟨ys,e⟩:=S'.lst T z;rw[hT]at e;cases e
  have kT:Den X.K (cut (upd H' T (.tup [.int i,y])) F') (.ref T) (.tuple [.int (i:Nat),d']):=by
   have rR:Same (cut H' F') (cut (upd H' T (.tup [.int i,y])) F'):=O1 sR;have hd2:=sO.up rR;have uu:cut (upd H' T (.tup [.int i,y])) F' T=cz (.tup [.int i,y]):=j7 EO i6;simp only[Den];exact⟨T,[.int i,y],rfl,SqT.of uu,denAll_cons den_int (denAll_cons hd2 denAll_nil)⟩
  rw[sH]at uU;refine hs Z' U' _ (cut H1 F) F' (.ref T) _ Z1 _ S2 kT (hm Z ps h1 _ (by rw[<-sH];exact dB nu)) uU λU3 F3 S3=>qb _ Z1 U3 _ (cut H1 F) F3 o1 S3 hg1 ?_
  cases o1 with
  |nx Z2=>exact λU4 H4 F4 S4=>⟨Z2,F4,S4,g5⟩
  |ct Z2=>exact λU4 H4 F4 S4=>⟨Z2,F4,S4,g5⟩
  |bk Z2=>
   have:o=.nx Z2:=(aK g5).symm;subst this;exact λU4 H4 F4 S4=>k U4 H4 F4 ⟨S4.all,S4.lst,S1.prot.trans S4.prot⟩
  |rt d=>
   have:o=.rt d:=(aK g5).symm;subst this;refine λv H4 fp o nd fr e=>k v H4 fp o nd (λa ha=>?_) (S1.prot.trans e)
   exact S1.prot.free (fr a ha)
 ·have e:i=xs.length:=by lia
  subst e;rw[pE,<-gn,iY]at hfl;have:o=.nx Z':=(aK hfl).symm;subst this;exact .inl ⟨⟨xs,q,aA _⟩,k U' H' F' ⟨S'.all,S'.lst,S1.prot.trans S'.prot⟩⟩
end
def insI(n:Int):List Int->List Int
 |[]=>[n]
 |m::ms=>if n<=m then n::m::ms else m::insI n ms
def srt:List Int->List Int
 |[]=>[]
 |n::ns=>insI n (srt ns)
theorem vals_ints:∀{vs:List ak} {ns:List Int},ml vs ns->Vals (ns.map V.int) vs
 |_,_,.nil=>.nil
 |_,_,.cons n t r=>.cons ⟨t,rfl⟩ (vals_ints r)
theorem c0j:∀ns:List Int,g6 (ns.map aR)=yn
 |[]=>by simp only[cW,g6]
 |n::ns=>by simp only[ay,g6,imm,c0j ns,eN]
def eD1(kt:Bool)(fk fv:EvE):EvE:=λZ=>(fk Z).bind λk=>(fv Z).bind λd=>if q8 kt k then cz (.dict [(k,d)]) else xn
section
variable {X:Cx}{M:List Md}{k v:Expr}{fk fv:EvE}{ck:Cat}{kt:Bool}{u:Ty}{pos:fS}
def b1I(hu:X.A.units+464<dY)(hk:PE X k tk)(hv:PE X v tv):PE X (.Dict [cz k] [v] pos) (λU H Q=>∀p,H p=xn->tk U (upd H p (i9 p [])) λkv H1=>tv U H1 λvv H2=>∃kt kd,H2 p=cz (i9 p [])/\KeysAt X H2 kt [] kd kv/\Q (.ref p) (upd H2 p (i9 p [(kd,kv,vv)]))):=by
 intro pins s U H Q I h;have I1:=I.laid (a:=s.heap.objs.size) (o:=i9 s.heap.objs.size []) (t':=s.toks) (λ_ _ q=>aF _ q) (aA _) (b1x s.heap I.sysBelow);rw[arm_eval_Dict,zip_pairTrees [cz k] [v] X.env pos rfl rfl,dictDisplay_pairs (pairTrees [cz k] [v] X.env pos) (by simp[pairTrees]) (by rw[pairTrees_length _ _ _ _ rfl rfl];simp)];refine af (pj (af ?_));unfold subDict;refine af (wpAny_alloc ?_);refine af (c_ ?_);rw[aE (by rw[pairTrees_length _ _ _ _ rfl rfl];simp)];refine af ?_;refine pairTrees_cons_walk (L2.thn (hk pins _ U _ _ I1 (h _ (I.hok.fresh (aA _)))) λkv s2 ⟨x,H1,I2,rx,q⟩=>L2.thn (hv pins s2 U H1 _ I2 q) λvv s3 qz=>?_);obtain⟨y,H2,I3,ry,kt,kd,e,K,q4⟩:=qz;refine pairTrees_nil_walk ?_;refine c_ ?_;refine af ?_;rw[qm];refine af (af (set_dict I3 (by lia) e K rx ry (by rw[cY];decide) λs' I'=>aC ?_));show aZ _ _ (forIn ([]:List (ak×ak)) PUnit.unit _) _ _ _;rw[q_];exact aC (aC (aC (aC ⟨.ref _,_,I',rfl,q4⟩)))
def b4a(hu:X.A.units+464<dY)(hk:PX X M k fk ck)(hv:PX X M v fv (.new u)):PX X M (.Dict [cz k] [v] pos) (eD1 kt fk fv) (.new (.d kt u)):=by
 obtain⟨tk,pk,qk⟩:=hk.out;obtain⟨tv,pv,qv⟩:=hv.out;refine .mk ⟨_,b1I hu pk pv,λZ U H P F d Q S hf q=>?_⟩;obtain⟨kd,h1,g1⟩:=bnd hf;obtain⟨vd,h2,g2⟩:=bnd g1;by_cases c:q8 kt kd=yn
 ·rw[aE c]at g2;cases g2
  intro p hp;have s0:=l9 hp (i9 p []);have S0:StE X.K M Z U (upd H p (i9 p [])) P ([p]++F):=S.more s0 (λa ha=>by rw[ar.mp ha];exact hp) λa ha=>by rw[ar.mp ha];exact⟨⟨i9 p [],trivial⟩,i6⟩
  refine qk Z U _ P ([p]++F) kd _ S0 h1 λkv H1 s1 r1=>qv Z U H1 P ([p]++F) vd _ (S0.grow s1) h2 λvv H2 s2 ⟨fp,o,hn,nM⟩=>?_
  have jX:H2 p=cz (i9 p []):=(s1.trans s2) _ _ i6;have vY:∀a∈fp,a≠p:=λa ha z=>by
   have:=nM a ha;rw[z,s1 _ _ i6]at this;cases this
  have hF:∀a∈(p::fp)++F,∃ys:MuO,upd H2 p (i9 p [(kd,kv,vv)]) a=cz ys.1:=λa ha=>by
   by_cases e:a=p
   ·subst e;exact⟨⟨i9 a _,trivial⟩,i6⟩
   ·rw[c9 e];rcases av.mp ha with z|z
    ·rcases aG.mp z with z|z
     ·exact absurd z e
     ·exact o.lst u a z
    ·exact ((S0.grow s1).grow s2).lst a (ai _ z)
  have hc:Same (cut H2 (fp++([p]++F))) (cut (upd H2 p (i9 p [(kd,kv,vv)])) ((p::fp)++F)):=λa x hx=>by
   obtain⟨n1,n2⟩:=m8 hx;have rS:a≠p:=λz=>n1 (by rw[z];simp)
   refine j7 (λz=>n1 ?_) (by rw[c9 rS];exact n2);rcases av.mp z with z|z
   ·rcases aG.mp z with z|z
    ·exact absurd z rS
    ·exact ao _ z
   ·exact ai _ (ai _ z)
  refine⟨kt,kd,jX,⟨(λe he=>nomatch he),N1 c,r1.den.up s2⟩,q _ _ (λa x hx=>?_) ⟨p::fp,?_,?_,λa ha=>?_⟩⟩
  ·rw[c9 (λz=>by rw[z,hp]at hx;cases hx)];exact (s0.trans (s1.trans s2)) _ _ hx
  ·simp only[Own];refine⟨p,[(kd,kv,vv)],[vd],fp++[],rfl,i6,rfl,by rw[bj],⟨by simp,λe he=>?_⟩,m9 (o.frame hc u λa ha=>c9 (vY a ha)) p7⟩;rw[ar.mp he];refine⟨N1 c,Den.imm_out hF kd (X0 _ (N1 c).1) ?_⟩;have dk:=r1.den.up s2;exact (Den.imm_out (F:=[p]) (λa ha=>by rw[ar.mp ha];exact⟨⟨i9 p [],trivial⟩,jX⟩) kd (X0 _ (N1 c).1) dk).up λa x hx=>by
    obtain⟨n1,n2⟩:=m8 hx;rw[c9 (λz=>n1 (by rw[z];simp))];exact n2
  ·exact bY.mpr ⟨λz=>vY p z rfl,hn⟩
  ·rcases aG.mp ha with z|z
   ·rw[z];exact hp
   ·exact s0.free (s1.free (nM a z))
 ·rw[aM c]at g2;cases g2
end
end VS
namespace PySem
def Heap.IsValuesView.at{h g1:cB}{v d}(x:h.IsValuesView v d)(e:∀o,h.get? v=cz o->g1.get? v=cz o):g1.IsValuesView v d:=let⟨o,ho,r⟩:=x;⟨o,e _ ho,r⟩
theorem Heap.IsValuesView.push{h:cB}{v d}(x:h.IsValuesView v d)(o:fV):(h.push o).IsValuesView v d:=x.at λ_ e=>aF o e
section
variable {prog:bu}{w:bV}{K:Type}[DecidableEq K]{knd:KeyKind prog w K}{A:bP}{E:ak->au->Prop}{s:au}
def b1J(hT:s.TypeIs (.ref d) "dict")(h:Q yH s):aZ (aX prog w) A (gR (.ref d)) Q E s:=by
 unfold gR;refine af (gI hT uK.lookup ?_);generalize xi:("dict.__len__":String)=yS
 wp_delta
 rw[show splitId yS=cz ("dict","__len__") from by subst xi;decide +kernel];subst xi;refine af (lX (T:="dict") (b:=yn) hT (by rw[isSubtype_type];kernel_rfl) ?_);refine iG (λrT=>absurd rT (by decide)) (λ_=>?_);refine iG (λ_=>?_) (λrT=>absurd (by decide +kernel) rT);refine af (qC hT ?_);exact aC h
def b1K(hT:s.TypeIs (.ref d) "dict_values")(h:Q yH s):aZ (aX prog w) A (gR (.ref d)) Q E s:=by
 unfold gR;refine af (gI hT F.slot_dict_values_len.lookup ?_);generalize xi:("dict_values.__len__":String)=yS
 wp_delta
 rw[show splitId yS=cz ("dict_values","__len__") from by subst xi;decide +kernel];subst xi;refine af (lX (T:="dict_values") (b:=yn) hT (by rw[isSubtype_type];kernel_rfl) ?_);refine iG (λrT=>absurd rT (by decide)) (λ_=>?_);refine iG (λ_=>?_) (λrT=>absurd (by decide +kernel) rT);refine af (qC hT ?_);exact aC h
def b4b(hh:A.handled=xn)(hd:(d==dG)=yH)(hm:s.heap.DictAt knd d kvs ep)
  (jI:kvs.length<=bg) (L0:aw) (res:ak) (c₀:Nat) (zl:s.heap.get? L0=cz {cls:=.type "list",data:=.seq #[] c₀})
  (kR:∀g1 tq ac cq,(∀b o,b≠L0->s.heap.get? b=cz o->g1.get? b=cz o)->g1.get? L0=cz {cls:=.type "list",dict:=xn,data:=.seq ac cq,slots:=#[]}->
   rd (λi v=>∃k x,kvs[i]?=cz (k,x)/\knd.is k v=yn) ac kvs.length->R (.ok (.ret res)) {s with heap:=g1,toks:=tq}) :
  aZ (aX prog w) A.in1 (cP (.ref L0) (.ref d) res)
   (λuz sq=>match uz with|.done f=>R (.ok f) sq|.again cq=>cq.quiet=yn/\gQ (aX prog w) A cq R sq) (λe sq=>R (.error e) sq) s:=by
 have rl:L0≠d:=λe=>by
  obtain⟨o,es,ho,hx,kI,_⟩:=hm;rw[<-e,zl]at ho;cases ho
  cases kI
 have wY:L0≠s.heap.objs.size:=bI (aS zl);have wM:d≠s.heap.objs.size:=bI hm.lt_size;have Ae:L0∉[s.heap.objs.size,d]:=λinn=>by
  rcases aG.mp inn with e|e
  ·exact wY e
  ·exact rl (ar.mp e)
 have W:=(Walks.dictKeys (prog:=prog) (w:=w) (knd:=knd) (A:=A.in1) hh s.heap.objs.size d wM kvs ep).toS;have key:∀(h:cB) (c₁ tq:Nat),h.IsKeyIter s.heap.objs.size d 0 kvs.length ep->h.DictAt knd d kvs ep->(∀b o,b≠L0->s.heap.get? b=cz o->h.get? b=cz o)->
   h.get? L0=cz {cls:=.type "list",data:=.seq #[] c₁}->gQ (aX prog w) A (.builtin "list.extend.loop" ⟨[.ref L0,.ref s.heap.objs.size,res],[]⟩) R {s with heap:=h,toks:=tq}:=by
  intro h c₁ tq hit ui hk qB;refine codeAny_extend_loopS W jI L0 Ae res kvs.length 0 _ #[] c₁ rfl (cG _) ⟨hit,ui⟩ qB (rd.nil _) λsq ac cq wc qA me=>?_
  rw[Moved.eq_with wc];refine kR sq.heap sq.toks ac cq (λb o nb e=>wc.heap b o (λinn=>?_) (hk b o nb e)) qA me;rcases aG.mp inn with e'|inn
  ·exact nb e'
  ·exact absurd (aS e) (by rw[ar.mp inn];exact dA _)
 unfold cP;refine af (qC (T:="dict") hm.dictOf.typeIs ?_);have h1:iE (.ref L0) (.ref d)=yH:=by simp[iE,rl]
 have h2:(fK "dict" == fK "list")=yH:=by decide
 have h3:(fK "dict" == fK "tuple")=yH:=by decide
 simp only[h1,h2,h3,Bool.or_false,bz,du];refine af (wpAny_pyIter_dict hd hm ?_);refine af (c_ (b1J ((hm.push _).dictOf.typeIs) ?_));have qB:=aF {cls:=.type "dict_keyiterator",data:=.fields #[.ref d,.int 0 0,.int kvs.length 0,.int ep 0]} zl;have l_:(s.heap.push {cls:=.type "dict_keyiterator",data:=.fields #[.ref d,.int 0 0,.int kvs.length 0,.int ep 0]}).IsKeyIter s.heap.objs.size d 0 kvs.length ep:=⟨_,bo _ rfl,rfl,rfl⟩;refine iG (λ_=>?_) (λ_=>aC ⟨lJ km _,key _ c₀ _ l_ (hm.push _) (λb o _ e=>aF _ e) qB⟩);refine af (iJ ?_);refine af ?_;show aZ _ _ (oD L0 (·.push .none) >>= λ_=>oD L0 (·.pop)) _ _ _;refine af (iF qB rfl ?_);have rA:=cS (cu (·.push bx)) qB rfl;refine iF (hz:=by seq_fits) rA rfl ?_;have yr:=cS (cu (·.pop)) rA rfl;have rest:∀b o,b≠L0->(s.heap.push {cls:=.type "dict_keyiterator",data:=.fields #[.ref d,.int 0 0,.int kvs.length 0,.int ep 0]}).get? b=cz o->(((s.heap.push {cls:=.type "dict_keyiterator",data:=.fields #[.ref d,.int 0 0,.int kvs.length 0,.int ep 0]}).update L0 (cu (·.push bx))).update L0 (cu (·.pop))).get? b=cz o:=λb o nb e=>(dQ _ _ (cV nb)).trans ((dQ _ _ (cV nb)).trans e)
 exact aC ⟨lJ km _,key _ _ _ (l_.at λo e=>rest _ o (cV wY) e) ((hm.push _).at' λo e=>rest _ o (cV rl) e) (λb o nb e=>rest b o nb (aF _ e)) yr⟩
def b1L(hh:A.handled=xn)(hd:(d==dG)=yH)(hm:s.heap.DictAt knd d kvs ep)
  (jI:kvs.length<=bg) (L0:aw) (zl:s.heap.get? L0=cz {cls:=.type "list",data:=.seq #[]})
  (kR:∀g1 tq ac cq,(∀b o,b≠L0->s.heap.get? b=cz o->g1.get? b=cz o)->g1.get? L0=cz {cls:=.type "list",dict:=xn,data:=.seq ac cq,slots:=#[]}->
   rd (λi v=>∃k x,kvs[i]?=cz (k,x)/\knd.is k v=yn) ac kvs.length->R (.ok (.ret .none)) {s with heap:=g1,toks:=tq}) :
  aZ (aX prog w) A.in1 (Builtin.«list.__init__» ⟨[.ref L0,.ref d],[]⟩)
   (λuz sq=>match uz with|.done f=>R (.ok f) sq|.again cq=>cq.quiet=yn/\gQ (aX prog w) A cq R sq) (λe sq=>R (.error e) sq) s:=by
 have rl:L0≠d:=λe=>by
  obtain⟨o,es,ho,hx,kI,_⟩:=hm;rw[<-e,zl]at ho;cases ho
  cases kI
 show aZ _ _ (do let old <-jf (.ref L0);Cv (.ref L0) (λ_=>#[]);letGo old.toList.reverse;cP (.ref L0) (.ref d) .none) _ _ s;refine af ?_;unfold jf;refine af (vq zl rfl (aC ?_));show aZ _ _ (oD L0 (λ_=>#[]) >>= λ_=>letGo (#[]:Array ak).toList.reverse >>= λ_=>cP (.ref L0) (.ref d) .none) _ _ s;refine af (iF zl rfl ?_);have rA:=cS (cu (λ_=>(#[]:Array ak))) zl rfl;have rest:∀b o,b≠L0->s.heap.get? b=cz o->(s.heap.update L0 (cu (λ_=>(#[]:Array ak)))).get? b=cz o:=
  λb o nb e=>(dQ _ _ (cV nb)).trans e
 refine af (su ?_);refine b4b hh hd (hm.at' λo e=>rest d o (cV rl) e) jI L0 .none _ rA λg1 tq ac cq hk qA me=>?_
 exact kR g1 tq ac cq (λb o nb e=>hk b o nb (rest b o nb e)) qA me
def a3C(hh:A.handled=xn)(hd:(d==dG)=yH)(hm:s.heap.DictAt knd d kvs ep)
  (jI:kvs.length<=bg)
  (kQ:∀g1 tq ac cq,(∀b o,s.heap.get? b=cz o->g1.get? b=cz o)->
   g1.get? s.heap.objs.size=cz {cls:=.type "list",dict:=xn,data:=.seq ac cq,slots:=#[]}->rd (λi v=>∃k x,kvs[i]?=cz (k,x)/\knd.is k v=yn) ac kvs.length->Q (.ref s.heap.objs.size) {s with heap:=g1,toks:=tq}) :
  aZ (aX prog w) A (call (.type "list") [.ref d]) Q E s:=by
 refine callType_codes (Q₁:=λobj s₁=>obj=.ref s.heap.objs.size/\s₁={s with heap:=s.heap.push {cls:=.type "list",data:=.seq #[]}}) F.called_list (F.typeCall_list_1 _) F.entry_list_init
  (code_list_new _ ⟨rfl,rfl⟩) λobj s₁ h₁=>?_
 obtain⟨rfl,rfl⟩:=h₁;have zl:(s.heap.push {cls:=.type "list",data:=.seq #[]}).get? s.heap.objs.size=cz {cls:=.type "list",data:=.seq #[]}:=bo _ rfl;refine⟨⟨_,zl,rfl⟩,F.args_list_init_2 _ _,b1L (A:=A.in1) hh hd (hm.push _) jI _ zl λg1 tq ac cq hk qA me=>?_⟩;exact⟨rfl,kQ g1 tq ac cq (λb o e=>hk b o (bI (aS e)) (aF _ e)) qA me⟩
def b4c(hh:A.handled=xn)(hd:(d==dG)=yH)(hm:s.heap.DictAt knd d kvs ep)(hv:s.heap.IsValuesView v d)
  (jI:kvs.length<=bg) (L0:aw) (res:ak) (c₀:Nat) (zl:s.heap.get? L0=cz {cls:=.type "list",data:=.seq #[] c₀})
  (kR:∀g1 tq ac cq,(∀b o,b≠L0->s.heap.get? b=cz o->g1.get? b=cz o)->g1.get? L0=cz {cls:=.type "list",dict:=xn,data:=.seq ac cq,slots:=#[]}->
   rd (λi v=>∃k,kvs[i]?=cz (k,v)) ac kvs.length->R (.ok (.ret res)) {s with heap:=g1,toks:=tq}) :
  aZ (aX prog w) A.in1 (cP (.ref L0) (.ref v) res)
   (λuz sq=>match uz with|.done f=>R (.ok f) sq|.again cq=>cq.quiet=yn/\gQ (aX prog w) A cq R sq) (λe sq=>R (.error e) sq) s:=by
 have rl:L0≠d:=λe=>by
  obtain⟨o,es,ho,hx,kI,_⟩:=hm;rw[<-e,zl]at ho;cases ho
  cases kI
 have Ad:L0≠v:=λe=>by
  obtain⟨o,ho,hc,kI⟩:=hv;rw[<-e,zl]at ho;cases ho
  cases kI
 have wY:L0≠s.heap.objs.size:=bI (aS zl);have wM:d≠s.heap.objs.size:=bI hm.lt_size;have Ae:L0∉[s.heap.objs.size,d]:=λinn=>by
  rcases aG.mp inn with e|e
  ·exact wY e
  ·exact rl (ar.mp e)
 have W:=(Walks.dictValues (prog:=prog) (w:=w) (knd:=knd) (A:=A.in1) hh s.heap.objs.size d wM kvs ep).toS;have key:∀(h:cB) (c₁ tq:Nat),h.IsValIter s.heap.objs.size d 0 kvs.length ep->h.DictAt knd d kvs ep->(∀b o,b≠L0->s.heap.get? b=cz o->h.get? b=cz o)->
   h.get? L0=cz {cls:=.type "list",data:=.seq #[] c₁}->gQ (aX prog w) A (.builtin "list.extend.loop" ⟨[.ref L0,.ref s.heap.objs.size,res],[]⟩) R {s with heap:=h,toks:=tq}:=by
  intro h c₁ tq hit ui hk qB;refine codeAny_extend_loopS W jI L0 Ae res kvs.length 0 _ #[] c₁ rfl (cG _) ⟨hit,ui⟩ qB (rd.nil _) λsq ac cq wc qA me=>?_
  rw[Moved.eq_with wc];refine kR sq.heap sq.toks ac cq (λb o nb e=>wc.heap b o (λinn=>?_) (hk b o nb e)) qA me;rcases aG.mp inn with e'|inn
  ·exact nb e'
  ·exact absurd (aS e) (by rw[ar.mp inn];exact dA _)
 unfold cP;refine af (qC (T:="dict_values") hv.typeIs ?_);have h1:iE (.ref L0) (.ref v)=yH:=by simp[iE,Ad]
 have h2:(fK "dict_values" == fK "list")=yH:=by decide
 have h3:(fK "dict_values" == fK "tuple")=yH:=by decide
 simp only[h1,h2,h3,Bool.or_false,bz,du];refine af (wpAny_pyIter_values hv hm ?_);refine af (c_ (b1K ((hv.push _).typeIs) ?_));have qB:=aF {cls:=.type "dict_valueiterator",data:=.fields #[.ref d,.int 0 0,.int kvs.length 0,.int ep 0]} zl;have l_:(s.heap.push {cls:=.type "dict_valueiterator",data:=.fields #[.ref d,.int 0 0,.int kvs.length 0,.int ep 0]}).IsValIter s.heap.objs.size d 0 kvs.length ep:=⟨_,bo _ rfl,rfl,rfl⟩;refine iG (λ_=>?_) (λ_=>aC ⟨lJ km _,key _ c₀ _ l_ (hm.push _) (λb o _ e=>aF _ e) qB⟩);refine af (iJ ?_);refine af ?_;show aZ _ _ (oD L0 (·.push .none) >>= λ_=>oD L0 (·.pop)) _ _ _;refine af (iF qB rfl ?_);have rA:=cS (cu (·.push bx)) qB rfl;refine iF (hz:=by seq_fits) rA rfl ?_;have yr:=cS (cu (·.pop)) rA rfl;have rest:∀b o,b≠L0->(s.heap.push {cls:=.type "dict_valueiterator",data:=.fields #[.ref d,.int 0 0,.int kvs.length 0,.int ep 0]}).get? b=cz o->(((s.heap.push {cls:=.type "dict_valueiterator",data:=.fields #[.ref d,.int 0 0,.int kvs.length 0,.int ep 0]}).update L0 (cu (·.push bx))).update L0 (cu (·.pop))).get? b=cz o:=λb o nb e=>(dQ _ _ (cV nb)).trans ((dQ _ _ (cV nb)).trans e)
 exact aC ⟨lJ km _,key _ _ _ (l_.at λo e=>rest _ o (cV wY) e) ((hm.push _).at' λo e=>rest _ o (cV rl) e) (λb o nb e=>rest b o nb (aF _ e)) yr⟩
def b1M(hh:A.handled=xn)(hd:(d==dG)=yH)(hm:s.heap.DictAt knd d kvs ep)(hv:s.heap.IsValuesView v d)
  (jI:kvs.length<=bg) (L0:aw) (zl:s.heap.get? L0=cz {cls:=.type "list",data:=.seq #[]})
  (kR:∀g1 tq ac cq,(∀b o,b≠L0->s.heap.get? b=cz o->g1.get? b=cz o)->g1.get? L0=cz {cls:=.type "list",dict:=xn,data:=.seq ac cq,slots:=#[]}->
   rd (λi v=>∃k,kvs[i]?=cz (k,v)) ac kvs.length->R (.ok (.ret .none)) {s with heap:=g1,toks:=tq}) :
  aZ (aX prog w) A.in1 (Builtin.«list.__init__» ⟨[.ref L0,.ref v],[]⟩)
   (λuz sq=>match uz with|.done f=>R (.ok f) sq|.again cq=>cq.quiet=yn/\gQ (aX prog w) A cq R sq) (λe sq=>R (.error e) sq) s:=by
 have rl:L0≠d:=λe=>by
  obtain⟨o,es,ho,hx,kI,_⟩:=hm;rw[<-e,zl]at ho;cases ho
  cases kI
 have Ad:L0≠v:=λe=>by
  obtain⟨o,ho,hc,kI⟩:=hv;rw[<-e,zl]at ho;cases ho
  cases kI
 show aZ _ _ (do let old <-jf (.ref L0);Cv (.ref L0) (λ_=>#[]);letGo old.toList.reverse;cP (.ref L0) (.ref v) .none) _ _ s;refine af ?_;unfold jf;refine af (vq zl rfl (aC ?_));show aZ _ _ (oD L0 (λ_=>#[]) >>= λ_=>letGo (#[]:Array ak).toList.reverse >>= λ_=>cP (.ref L0) (.ref v) .none) _ _ s;refine af (iF zl rfl ?_);have rA:=cS (cu (λ_=>(#[]:Array ak))) zl rfl;have rest:∀b o,b≠L0->s.heap.get? b=cz o->(s.heap.update L0 (cu (λ_=>(#[]:Array ak)))).get? b=cz o:=
  λb o nb e=>(dQ _ _ (cV nb)).trans e
 refine af (su ?_);refine b4c hh hd (hm.at' λo e=>rest d o (cV rl) e) (hv.at λo e=>rest v o (cV Ad) e) jI L0 .none _ rA λg1 tq ac cq hk qA me=>?_
 exact kR g1 tq ac cq (λb o nb e=>hk b o nb (rest b o nb e)) qA me
def a3D(hh:A.handled=xn)(hd:(d==dG)=yH)(hm:s.heap.DictAt knd d kvs ep)(hv:s.heap.IsValuesView v d)
  (jI:kvs.length<=bg)
  (kQ:∀g1 tq ac cq,(∀b o,s.heap.get? b=cz o->g1.get? b=cz o)->
   g1.get? s.heap.objs.size=cz {cls:=.type "list",dict:=xn,data:=.seq ac cq,slots:=#[]}->rd (λi v=>∃k,kvs[i]?=cz (k,v)) ac kvs.length->Q (.ref s.heap.objs.size) {s with heap:=g1,toks:=tq}) :
  aZ (aX prog w) A (call (.type "list") [.ref v]) Q E s:=by
 refine callType_codes (Q₁:=λobj s₁=>obj=.ref s.heap.objs.size/\s₁={s with heap:=s.heap.push {cls:=.type "list",data:=.seq #[]}}) F.called_list (F.typeCall_list_1 _) F.entry_list_init
  (code_list_new _ ⟨rfl,rfl⟩) λobj s₁ h₁=>?_
 obtain⟨rfl,rfl⟩:=h₁;have zl:(s.heap.push {cls:=.type "list",data:=.seq #[]}).get? s.heap.objs.size=cz {cls:=.type "list",data:=.seq #[]}:=bo _ rfl;refine⟨⟨_,zl,rfl⟩,F.args_list_init_2 _ _,b1M (A:=A.in1) hh hd (hm.push _) (hv.push _) jI _ zl λg1 tq ac cq hk qA me=>?_⟩;exact⟨rfl,kQ g1 tq ac cq (λb o e=>hk b o (bI (aS e)) (aF _ e)) qA me⟩
end
end PySem
namespace VS
open PySem.Spec L2
theorem a2Q:∀{xs:List V} {us:List ak},xs.length=us.length->(∀(i:Nat) (x:V) (u:ak),xs[i]?=cz x->us[i]?=cz u->RelV x u)->Vals xs us
 |[],[],_,_=>.nil
 |[],_::_,h,_=>by simp at h
 |_::_,[],h,_=>by simp at h
 |x::xs,u::us,hl,h=>.cons (h 0 x u rfl rfl) (a2Q (by simpa using hl) λi x u h1 h2=>h (i+1) x u (by simpa using h1) (by simpa using h2))
def K9(es:List (D×V×V)):Prop:=∀e∈es,∃n,e.1=.int n/\e.2.1=.int n
def EKv(e:D×V×V)(kv:Int×ak):Prop:=e.1=.int kv.1/\e.2.1=.int kv.1/\RelV e.2.2 kv.2
def b1N(h:gg a0v es l):K9 es->∃kvs:List (Int×ak),Pairs (ie P w) l kvs/\gg EKv es kvs:=by
 induction h with
 |nil=>exact λ_=>⟨[],.nil,.nil⟩
 |@cons e x es l r _ ih=>
  intro hk;obtain⟨kvs,h1,h2⟩:=ih λe he=>hk e (ax _ he)
  obtain⟨n,e1,e2⟩:=hk e aN;obtain⟨hh,oR,tM⟩:=r;rw[e2]at oR;obtain⟨t,ht⟩:=(show ∃t,x.key=jA n t from oR);exact⟨(n,x.val)::kvs,.cons (by rw[ht];simp[ie,jO]) rfl h1,.cons ⟨e1,e2,tM⟩ h2⟩
def b4d(h:gg EKv es kvs):es.map (·.1)=(kvs.map (·.1)).map aR:=by
 induction h with
 |nil=>rfl
 |cons r _ ih=>rw[ay,ay,ay,ih,r.1]
section
variable {X:Cx}{M:List Md}{a o:Expr}{fa:EvE}{ca:Cat}{pos p apos cJ:fS}
def a0N(I:Inv X pins U H s)(hH:H d=cz (i9 d es))(hk:K9 es) :
  ∃kvs ep,s.heap.DictAt (ie X.prog X.w) d kvs ep/\(d==dG)=yH/\es.length<=bg/\gg EKv es kvs:=by
 obtain⟨h0,hl,hn,o,ents,ep,h1,h2,h3,h4⟩:=y8 I hH;obtain⟨kvs,p1,p2⟩:=b1N (P:=X.prog) (w:=X.w) h4 hk;refine⟨kvs,ep,⟨o,ents,h1,h2,h3,λx hx=>?_,p1,?_⟩,h0,hl,p2⟩
 ·obtain⟨j,hj⟩:=cZ.mp (gN.mpr hx);obtain⟨e,he,hh,oR,_⟩:=a2n h4 hj;obtain⟨n,e1,e2⟩:=hk e (bw he);rw[e2]at oR;obtain⟨t,ht⟩:=(show ∃t,x.key=jA n t from oR);exact⟨n,by rw[ht];simp[ie,jO],by rw[hh,e1];rfl⟩
 ·rw[b4d p2]at hn;exact List.Pairwise.of_map aR (λa b h e=>h (by rw[e])) hn
def a8T(hc:X.calm=yn):CallR X (.type "list") (λxs H Q=>∃p es,xs=[.ref p]/\H p=cz (i9 p es)/\K9 es/\∀l,H l=xn->Q (.ref l) (upd H l (.lst (es.map (·.2.1))))):=by
 intro pins s U H xs us Q I rv h;obtain⟨p,es,rfl,hH,hk,q⟩:=h;obtain⟨u,rfl,rx⟩:=vals1 rv;cases (show u=bL p from rx)
 obtain⟨kvs,ep,uu,h0,hl,hp⟩:=a0N I hH hk;have hlen:=gO hp;refine a3C (knd:=ie X.prog X.w) (I.ok.hd hc) h0 uu (by lia) λg1 tq ac cq keep ho me=>?_
 refine⟨.ref s.heap.objs.size,_,I.laid (t':=tq) keep (aA _) (show ObjOk X.prog X.w _ g1 _ (.lst (es.map (·.2.1))) from⟨by rw[aj];exact hl,ac.toList,cq,?_,by rw[xy];exact ho⟩),rfl,q _ (I.hok.fresh (aA _))⟩;refine a2Q (by rw[aj];have z1:=me.1;have z2:ac.toList.length=ac.size:=aT;lia) λi x u h1 h2=>?_
 rw[bU]at h2;obtain⟨k,y,h3,h4⟩:=me.2 i u h2;rw[a_]at h1;obtain⟨e,he,rfl⟩:=e_.mp h1;obtain⟨kv,g3,g4⟩:=O3 hp he;rw[h3]at g3;cases g3
 obtain⟨t,rfl⟩:=ak.isInt_shape h4;rw[g4.2.1];exact⟨t,rfl⟩
def a5q(v d:aw):HO:=.ext λh=>h.IsValuesView v d
def b1O{h':cB}(h:h'.IsValuesView v d):ObjOk P w H' h' v (a5q v d):=
 ⟨h,let⟨o,ho,_⟩:=h;⟨o,ho⟩,λx1 x2 ⟨o,ho,r⟩ hk=>⟨o,hk _ ho,r⟩⟩
def b1P(ho:PE X o to)(fJ:dZ o "values" X.env (cD o X.env)=cD o X.env:=by rfl)(fI:(apos.endLine==cJ.line)=yn:=by rfl) :
  PE X (.Call (.Attribute o "values" apos) [] [] cJ) (λU H Q=>to U H λx H1=>∃p es,x=.ref p/\H1 p=cz (i9 p es)/\K9 es/\∀l,H1 l=xn->Q (.ref l) (upd H1 l (a5q l p))):=by
 intro pins s U H Q I h;refine wpAny_Call_method0_late fJ fI (L2.thn (ho pins s U H _ I h) λv s1 qz=>?_);obtain⟨x,H1,I1,r1,p,es,ex,hH,hk,q1⟩:=qz;subst ex;obtain rfl:v=bL p:=r1;obtain⟨kvs,ep,uu,h0,hl,hp⟩:=a0N I1 hH hk;refine⟨"dict","dict.values",sZ,si,PySem.F.type_dict_values,p6 I1 hH,a1f I1 hH,mP rfl (PySem.evalArgs_none ?_)⟩;refine call_meetsIn si (p6 I1 hH) PySem.F.entry_dict_values (PySem.F.args_dict_values_1 _) (meets_dict_values (ie X.prog X.w) p h0) ⟨⟨kvs,uu.dictOf⟩,?_⟩;exact⟨.ref s1.heap.objs.size,_,I1.laid (a:=s1.heap.objs.size) (o:=a5q s1.heap.objs.size p) (t':=s1.toks) (λ_ _ q=>aF _ q) (aA _) (b1O ⟨_,bo _ rfl,rfl,rfl⟩),rfl,q1 _ (I1.hok.fresh (aA _))⟩
def a8U(hc:X.calm=yn):CallR X (.type "list") (λxs H Q=>∃v p es,xs=[.ref v]/\H v=cz (a5q v p)/\H p=cz (i9 p es)/\K9 es/\∀l,H l=xn->Q (.ref l) (upd H l (.lst (es.map (·.2.2))))):=by
 intro pins s U H xs us Q I rv h;obtain⟨v,p,es,rfl,hV,hH,hk,q⟩:=h;obtain⟨u,rfl,rx⟩:=vals1 rv;cases (show u=bL v from rx)
 obtain⟨kvs,ep,uu,h0,hl,hp⟩:=a0N I hH hk;have Dv:s.heap.IsValuesView v p:=(show ObjOk X.prog X.w H s.heap v (a5q v p) from I.hok v _ hV).1;have hlen:=gO hp;refine a3D (knd:=ie X.prog X.w) (I.ok.hd hc) h0 uu Dv (by lia) λg1 tq ac cq keep ho me=>?_
 refine⟨.ref s.heap.objs.size,_,I.laid (t':=tq) keep (aA _) (show ObjOk X.prog X.w _ g1 _ (.lst (es.map (·.2.2))) from⟨by rw[aj];exact hl,ac.toList,cq,?_,by rw[xy];exact ho⟩),rfl,q _ (I.hok.fresh (aA _))⟩;refine a2Q (by rw[aj];have z1:=me.1;have z2:ac.toList.length=ac.size:=aT;lia) λi x u h1 h2=>?_
 rw[bU]at h2;obtain⟨k,h3⟩:=me.2 i u h2;rw[a_]at h1;obtain⟨e,he,rfl⟩:=e_.mp h1;obtain⟨kv,g3,g4⟩:=O3 hp he;rw[h3]at g3;cases g3
 exact g4.2.2
def intKeyed(h:DenKV K H es kvs)(hk:kvs.all (λp=>q8 yH p.1)=yn):K9 es:=λe he=>by
 have h1:e.1∈kvs.map (·.1):=by rw[<-h.keys];exact de he
 obtain⟨kv,h2,h3⟩:=aJ.mp h1;obtain⟨n,hn⟩:=(N1 (dN.mp hk kv h2)).2.2.2 rfl;have hd:=h.kden e he;rw[<-h3,hn]at hd;exact⟨n,by rw[<-h3,hn],hd.int_inv⟩
theorem a1g:∀{es:List (D×V×V)},K9 es->DenAll K H (es.map (·.2.1)) (es.map (·.1))
 |[],_=>denAll_nil
 |e::es,h=>by
  obtain⟨n,e1,e2⟩:=h e aN;rw[ay,ay,e1,e2];exact denAll_cons den_int (a1g λe he=>h e (ax _ he))
theorem a1h:∀{es:List (D×V×V)},K9 es->g6 (es.map (·.1))=yn
 |[],_=>by simp only[cW,g6]
 |e::es,h=>by
  obtain⟨n,e1,_⟩:=h e aN;simp only[ay,g6,e1,imm,a1h λe he=>h e (ax _ he),eN]
def a6o(a:EvE):EvE:=λZ=>(a Z).bind λd=>match d with
 |.dict kvs=>if kvs.all (λp=>q8 yH p.1) then cz (.list (kvs.map (·.1))) else xn
 |_=>xn
def b4e(hc:X.calm=yn)(hm:X.mg "list"=xn)(ha:PX X M a fa ca)(hg:Gl X "list":=by rfl)(he:aq [a] X.env=(yH,cD a X.env)::aq [] X.env:=by rfl)(gn:(cy pos (aq [] X.env)).any (·.1)=yH:=by rfl) :
  PX X M (.Call (.Name "list" p) [a] [] pos) (a6o fa) (.new (.l .i)):=by
 obtain⟨ta,pa,qa⟩:=ha.out;refine .mk ⟨_,R1 (a8T hc) hg hm PyProof.Rows.Boot.«list» (l6 pa o9 he) (by decide) (by decide) he gn,λZ U H P F d Q S hf q=>?_⟩;obtain⟨x,h1,g1⟩:=bnd hf;cases x with
 |dict kvs=>
  by_cases c:kvs.all (λp=>q8 yH p.1)=yn
  ·have g2:(if kvs.all (λp=>q8 yH p.1) then cz (cF (kvs.map (·.1))) else xn)=cz d:=g1;rw[aE c]at g2;cases g2
   refine qa Z U H P F _ _ S h1 λv H1 e1 r1=>?_
   obtain⟨pp,es,rfl,k1,k2⟩:=r1.den.dict_inv;have hk:=intKeyed k2 c;refine⟨pp,es,rfl,k1,hk,λz hz=>q _ _ (e1.trans (l9 hz _)) ?_⟩;rw[<-k2.keys];exact a0f (a1g hk) (a1h hk) e1 hz (S.lst' e1)
  ·have g2:(if kvs.all (λp=>q8 yH p.1) then cz (cF (kvs.map (·.1))) else xn)=cz d:=g1;rw[aM c]at g2;cases g2
 |_=>cases g1
def a6p(a:EvE):EvE:=λZ=>(a Z).bind λd=>match d with
 |.dict kvs=>if kvs.all (λp=>q8 yH p.1)&&g6 (kvs.map (·.2)) then cz (.list (kvs.map (·.2))) else xn
 |_=>xn
def b4f(hc:X.calm=yn)(hm:X.mg "list"=xn)(ha:PX X M a fa ca)(hg:Gl X "list":=by rfl)(fJ:dZ a "values" X.env (cD a X.env)=cD a X.env:=by rfl)(fI:(apos.endLine==cJ.line)=yn:=by rfl)
  (he:aq [.Call (.Attribute a "values" apos) [] [] cJ] X.env=(yH,cD (.Call (.Attribute a "values" apos) [] [] cJ) X.env)::aq [] X.env:=by rfl) (gn:(cy pos (aq [] X.env)).any (·.1)=yH:=by rfl) :
  PX X M (.Call (.Name "list" p) [.Call (.Attribute a "values" apos) [] [] cJ] [] pos) (a6p fa) (.new (.l .i)):=by
 obtain⟨ta,pa,qa⟩:=ha.out;refine .mk ⟨_,R1 (a8U hc) hg hm PyProof.Rows.Boot.«list» (l6 (b1P pa fJ fI) o9 he) (by decide) (by decide) he gn,λZ U H P F d Q S hf q=>?_⟩;obtain⟨x,h1,g1⟩:=bnd hf;cases x with
 |dict kvs=>
  have g2:(if kvs.all (λp=>q8 yH p.1)&&g6 (kvs.map (·.2)) then cz (cF (kvs.map (·.2))) else xn)=cz d:=g1;by_cases c:(kvs.all (λp=>q8 yH p.1)&&g6 (kvs.map (·.2)))=yn
  ·rw[aE c]at g2;cases g2
   rw[aD]at c;refine qa Z U H P F _ _ S h1 λv H1 e1 r1=>?_
   obtain⟨pp,es,rfl,k1,k2⟩:=r1.den.dict_inv;have hk:=intKeyed k2 c.1;refine⟨pp,es,rfl,k1,hk,λy hy=>?_⟩;have e2:=l9 hy (a5q y pp);refine⟨y,pp,es,rfl,i6,e2 _ _ k1,hk,λz hz=>q _ _ ((e1.trans e2).trans (l9 hz _)) ?_⟩;exact a0f (k2.vals.up e2) c.2 (e1.trans e2) hz (S.lst' (e1.trans e2))
  ·rw[aM c]at g2;cases g2
 |_=>cases g1
end
section
variable {R:V->D->List aw->Prop}
theorem a3E:∀{ds:List D} {xs:List V} {fs:List aw},ListAll R xs ds fs->∃fl:List (List aw),fs=fl.flatten/\fl.length=ds.length/\∀(j:Nat) (v:V) (d:D),xs[j]?=cz v->ds[j]?=cz d->R v d (fl.getD j [])
 |[],_,_,h=>by
  obtain⟨rfl,rfl⟩:=h.nil_inv;exact⟨[],rfl,rfl,λj v d h1=>by simp at h1⟩
 |d::ds,_,_,h=>by
  obtain⟨v,r,f,g,rfl,rfl,h1,h2⟩:=h.cons_inv;obtain⟨fl,rfl,h3,h4⟩:=a3E h2;refine⟨f::fl,rfl,by simp[h3],λj w e q1 q2=>?_⟩;cases j with
  |zero=>cases q1;cases q2;exact h1
  |succ j=>exact h4 j w e (by simpa using q1) (by simpa using q2)
theorem a2p:∀{gl:List (List aw)} {ds:List D} {xs:List V},xs.length=gl.length->ds.length=gl.length->(∀(j:Nat) (v:V) (d:D),xs[j]?=cz v->ds[j]?=cz d->R v d (gl.getD j []))->ListAll R xs ds gl.flatten
 |[],ds,xs,h1,h2,_=>by
  rw[ir.mp h1,ir.mp h2];exact p7
 |g::gl,[],xs,h1,h2,_=>by simp at h2
 |g::gl,d::ds,[],h1,h2,_=>by simp at h1
 |g::gl,d::ds,v::xs,h1,h2,h=>m9 (h 0 v d rfl rfl) (a2p (by simpa using h1) (by simpa using h2) λj w e q1 q2=>h (j+1) w e (by simpa using q1) (by simpa using q2))
end
def a3F(fl:List (List aw))(jl:List (Option Nat)):List (List aw):=jl.map λo=>match o with
 |some j=>fl.getD j []
 |none=>[]
theorem a7w(b:aw):∀(fl:List (List aw)) (j:Nat),(fl.getD j []).count b+(fl.set j []).flatten.count b=fl.flatten.count b
 |[],j=>by simp
 |f::fl,0=>by simp
 |f::fl,j+1=>by
  have:=a7w b fl j;simp only[fX,List.flatten_cons,bW,eB];lia
theorem a0m(b:aw):∀(jl:List (Option Nat)) (fl:List (List aw)),(jl.filterMap id).Nodup->(a3F fl jl).flatten.count b<=fl.flatten.count b
 |[],fl,_=>by simp[a3F]
 |none::jl,fl,h=>by
  have:=a0m b jl fl (by simpa using h);simpa[a3F]using this
 |some j::jl,fl,h=>by
  have h':(j::jl.filterMap id).Nodup:=by simpa using h
  obtain⟨h1,h2⟩:=bY.mp h';have ih:=a0m b jl (fl.set j []) h2;have e:a3F (fl.set j []) jl=a3F fl jl:=by
   refine bK λo ho=>?_
   cases o with
   |none=>rfl
   |some i=>
    have gZ:j≠i:=λz=>h1 (dJ.mpr ⟨cz i,ho,by rw[z];rfl⟩)
    show (fl.set j []).getD i []=fl.getD i [];rw[ah,ah,bF gZ]
  rw[e]at ih;have h3:=a7w b fl j;show (fl.getD j []++(a3F fl jl).flatten).count b<=_;rw[bW];lia
def a6q(i:Nat)(fa:EvE):EvE:=λZ=>(fa Z).bind λd=>(asI d).bind λn=>match Z.getD i .none with
 |.dict kvs=>if 0<=n/\n<=1000000 then cz (.list ((l8 0 n.toNat).map λk=>(v5 kvs k).getD .none)) else xn
 |_=>xn
section
variable {X:Cx}{M:List Md}{a:Expr}{fa:EvE}{ca:Cat}{u:Ty}{pos apos cJ p1 p2 p3 p4 rp:fS}
def J6(es:List (D×V×V))(k:D):Option Nat:=es.findIdx? λe=>aI e.1 k
def valAt(es:List (D×V×V))(k:D):V:=match J6 es k with
 |some j=>((es.map (·.2.2))[j]?).getD .non
 |none=>.non
def a5r(es:List (D×V×V))(ds:List D)(k:D):D:=match J6 es k with
 |some j=>(ds[j]?).getD .none
 |none=>.none
theorem a5s:∀{es:List (D×V×V)} {ds:List D} (k:D),ds.length=es.length->a5r es ds k=(v5 ((es.map (·.1)).zip ds) k).getD .none
 |[],ds,k,_=>by simp[a5r,J6,v5]
 |e::es,[],k,h=>by simp at h
 |e::es,d::ds,k,h=>by
  have ih:=a5s (es:=es) (ds:=ds) k (by simpa using h);unfold a5r J6 v5 at ih ⊢;rw[ay,dq,jt,List.findIdx?_cons];cases hq:aI e.1 k with
  |true=>rfl
  |false=>
   simp only[bz,du]at ih ⊢;rw[<-ih];cases es.findIdx? λe=>aI e.1 k with
   |none=>rfl
   |some j=>rfl
def a3G:J6 es k=xn↔C1 es k=yH:=by
 unfold J6 C1;rw[List.findIdx?_eq_none_iff,eA];exact⟨λh e he=>by rw[h e he];decide,λh e he=>by have:=h e he;cases hq:aI e.1 k with|true=>exact absurd hq this|false=>rfl⟩
def U4(h:J6 es k=cz j):∃e,es[j]?=cz e/\aI e.1 k=yn:=by
 unfold J6 at h;obtain⟨h1,h2,_⟩:=List.findIdx?_eq_some_iff_getElem.mp h;exact⟨es[j],ag h1,h2⟩
def b1Q{es:List (D×V×V)}{ds:List D}(pG:a6l u=yn)(hl:ds.length=es.length)(hk:∀e∈es,keyOk yH e.1)(hn:(es.map (·.1)).Nodup)(h:ListAll (Own K H F u) (es.map (·.2.2)) ds fs)(pW:fs.Nodup) :
  ∀(n:Nat),∃jK,ListAll (Own K H F u) ((l8 0 n).map (valAt es)) ((l8 0 n).map (a5r es ds)) jK/\jK.Nodup/\∀a∈jK,a∈fs:=λn=>by
 obtain⟨fl,rfl,h1,h2⟩:=a3E h;have qM:(((l8 0 n).map (J6 es)).filterMap id).Nodup:=by
  rw[AJ];show ((l8 0 n).filterMap λk=>J6 es k).Nodup;unfold l8;rw[AJ];refine List.Pairwise.filterMap _ (λk k' jg j hj j' qP e=>jg ?_) List.nodup_range;obtain⟨e1,q1,q2⟩:=U4 (show J6 es (.int (0+(k:Int)))=cz j from hj);obtain⟨e2,q3,q4⟩:=U4 (show J6 es (.int (0+(k':Int)))=cz j' from qP);subst e;rw[q1]at q3;cases q3
  have rL:=(hk e1 (bw q1)).1;have z1:=(F5 e1.1 (.int (0+(k:Int))) rL rfl).mp q2;have z2:=(F5 e1.1 (.int (0+(k':Int))) rL rfl).mp q4;rw[z1]at z2
  injection z2 with z2
  lia
 refine⟨(a3F fl ((l8 0 n).map (J6 es))).flatten,a2p (by simp[a3F]) (by simp[a3F]) λj v d q1 q2=>?_,?_,λa ha=>?_⟩
 ·rw[a_]at q1 q2;obtain⟨k,e1,rfl⟩:=e_.mp q1;rw[e1]at q2;cases q2
  have e3:(a3F fl ((l8 0 n).map (J6 es))).getD j []=match J6 es k with
   |some j=>fl.getD j []
   |none=>[]:=by
   unfold a3F;rw[ah,a_,a_,e1];rfl
  rw[e3];unfold valAt a5r;cases xT:J6 es k with
  |none=>exact a7o pG
  |some i=>
   obtain⟨e,he,_⟩:=U4 xT;have hi:=(aO.mp he).1;have hd:ds[i]?=cz ds[i]:=ag (by lia);have hx:(es.map (·.2.2))[i]?=cz e.2.2:=by rw[a_,he];rfl
   have:=h2 i _ _ hx hd;show Own K H F u (((es.map (·.2.2))[i]?).getD .non) ((ds[i]?).getD .none) (fl.getD i []);rw[hx,hd];exact this
 ·exact X7 pW λb=>a0m b _ _ qM
 ·have:=a0m a ((l8 0 n).map (J6 es)) fl qM;exact fB.mp (bb (fB.mpr ha) this)
def b4g{es:List (D×V×V)}(hn:(es.map (·.1)).Nodup)(h:e∈es)(h0:e0∈es)(hk:e.1=e0.1):e=e0:=by
 induction es with
 |nil=>cases h
 |cons x es ih=>
  rw[ay,bY]at hn;rcases aG.mp h with z|z<;>rcases aG.mp h0 with z'|z'
  ·rw[z,z']
  ·exact absurd (aJ.mpr ⟨e0,z',by rw[<-hk,z]⟩) hn.1
  ·exact absurd (aJ.mpr ⟨e,z,by rw[hk,z']⟩) hn.1
  ·exact ih hn.2 z z'
def a7x(X:Cx):TE:=λU H Q=>∃v,U[1]?=cz (cz v)/\(∃p es,v=.ref p/\H p=cz (i9 p es))/\∃w,U[0]?=cz (cz w)/\b8w X v [w] H Q
def b7a(hu:X.A.units+464<dY)(EX:X.N[0]?=cz y:=by rfl)(sE:autoParam (NmV X y) ZY._auto_1)
  (EW:X.N[1]?=cz x:=by rfl) (vP:autoParam (NmV X x) ZY._auto_1)
  (fJ:dZ (.Name x p1) "get" X.env (cD (.Name x p1) X.env)=cD (.Name x p1) X.env:=by rfl)
  (iQ:((cy cJ (aq [.Name y p2] X.env)).all (λx=>!x.1)&&(eX cJ (dt [] X.env)).all (λx=>x.1.isSome)
   && decide (([.Name y p2]:List Expr).length+([]:List eO).length+(if ([]:List eO).isEmpty then 0 else 1)<30))=yn:=by rfl)
  (fI:(apos.endLine==cJ.line)=yn:=by rfl) (hs:aq [.Name y p2] X.env=(yH,cD (.Name y p2) X.env)::aq [] X.env:=by rfl) (eG:(cy cJ (aq [] X.env)).any (·.1)=yH:=by rfl) :
  PE X (.Call (.Attribute (.Name x p1) "get" apos) [.Name y p2] [] cJ) (a7x X):=by
 intro pins s U H Q I h;refine a8P vm vk (b3Q hu) (A5 EW vP.1 vP.2.1 vP.2.2) (l6 (A5 EX sE.1 sE.2.1 sE.2.2) o9 hs) fJ iQ fI hs eG pins s U H Q I ?_;obtain⟨v,h1,h2,w,h3,h4⟩:=h;exact⟨v,h1,h2,w,h3,h4⟩
def b0g:TT:=λ_ H Q=>Q yn H
def b7b:PTs X' [] b0g:=a9T
def b1R(i:Nat)(hc:X.calm=yn)(DS:X.mg "range"=xn)(ha:PX X M a fa ca)(hg:∀cl Cl s H fp,PG (K6 X ([y]++[x]) scope cl Cl s H fp) (.Name y p3) (M7 0))(he:∀cl Cl s H fp,PE (K6 X ([y]++[x]) scope cl Cl s H fp) (.Call (.Attribute (.Name x p1) "get" apos) [.Name y p2] [] cJ) (a7x (K6 X ([y]++[x]) scope cl Cl s H fp)))
  (hm:M[i]?=cz (.own (.d yH u)):=by rfl) (pG:a6l u=yn:=by rfl) (C:T7 scope X.env.kindOf [x] [i] X.N=yn:=by rfl) (Ej:Gl X "range":=by rfl) (Ez:aq [a] X.env=[(yH,cD a X.env)]:=by rfl) (zU:aq [a] X.env=(yH,cD a X.env)::aq [] X.env:=by rfl)
  (hs:∀x,eK (.Call (.Name "range" rp) [a] [] p4) X.env x=pure x:=by intro _;rfl) :
  PMX X M (.ListComp (.Call (.Attribute (.Name x p1) "get" apos) [.Name y p2] [] cJ) [⟨.Name y p3,.Call (.Name "range" rp) [a] [] p4,[],0⟩] scope pos) (a6q i fa) (.l u) (M.set i .dead):=by
 have he:∀cl Cl s H fp,PE (K6 X ([y]++[x]) scope cl Cl s H fp) (.Call (.Attribute (.Name x p1) "get" apos) [.Name y p2] [] cJ) (a7x X):=λcl Cl s0 H0 fp pins s U H Q I h=>by
  refine he cl Cl s0 H0 fp pins s U H Q I ?_;obtain⟨v,h1,h2,w,h3,p,es,kt,k,y,h4,h5,h6,⟨k1,k2,k3⟩,h7,h8⟩:=h;exact⟨v,h1,h2,w,h3,p,es,kt,k,y,h4,h5,h6,⟨k1,k2,k3⟩,h7,h8⟩
 obtain⟨wi,pi,qi⟩:=t5 (tg:=.Name y p3) (p:=rp) (pos:=p4) DS ha Ej Ez zU;refine⟨_,a6V (tn:=[y]) (ys:=[x]) (js:=[i]) (tt:=b0g) (te:=a7x X) hc pi C hg (λ_ _ _ _ _=>b7b) he hs,λMp Zp Up Z U H P F d Q S hf k=>?_⟩;obtain⟨dn,h1,g1⟩:=bnd hf;obtain⟨n,h2,g2⟩:=bnd g1;cases X3 h2
 obtain⟨l1,l2,S0⟩:=S;cases hZ:Z.getD i .none with
 |dict kvs=>
  rw[hZ]at g2;have g3:(if 0<=n/\n<=1000000 then cz (cF ((l8 0 n.toNat).map λk=>(v5 kvs k).getD .none)) else xn)=cz d:=g2;by_cases c:0<=n/\n<=1000000
  ·rw[aE c]at g3;cases g3
   refine qi Z U H P F (l8 0 n.toNat) _ (Pend.e ⟨l1,l2,S0⟩) (a6j h1 c.1 (by lia)) λJ xs Pr H1 e1 hw rJ hx Dl hD=>?_
   have S1:=S0.grow e1;have Aj:Dl∉F:=λz=>by obtain⟨zs,w⟩:=S1.lst Dl z;rw[hD]at w;cases w
   obtain⟨G,a1,a2,a3⟩:=S1.all;obtain⟨G1,G2,rfl,a4,a5⟩:=a1.splitAt l1 l2;obtain⟨dd,oo,f,pre,post,q1,q2,⟨v2,rfl,q3⟩,rfl,q5⟩:=a5.at_ hm;obtain⟨b,es,ds,fs,rfl,r2,r3,rfl,r5,r6,hl,hn⟩:=q3.dict;have ui:dd=.dict kvs:=by rw[<-hZ,B7 q1]
   rw[ui]at r3
   injection r3 with r3
   have BI:b≠Dl:=λz=>by rw[z,hD]at r2;cases r2
   have qI:∀(j:Nat) (x:V),xs[j]?=cz x->x=V.int (j:Int)/\(l8 0 n.toNat)[j]?=cz (aR (j:Int)):=λj x hj=>by
    obtain⟨dj,z1,z2⟩:=hx.getV hj;have z3:=z1;unfold l8 at z3;rw[a_]at z3;obtain⟨m,z4,z5⟩:=e_.mp z3;have xS:m=j:=by
     have jz:=(aO.mp z4).1;rw[bE]at jz;rw[fP jz]at z4;exact (aK z4).symm
    subst xS;have z6:aR (0+(m:Int))=dj:=z5;rw[Int.zero_add]at z6;subst z6;exact⟨z2.int_inv,z1⟩
   have pE:=hx.length;refine a5l (tt:=b0g) (te:=a7x X) (g:=M7 0) (R:=λH'=>Q (.ref Dl) H') hw (λj ys U' H'=>(∃w,U'=[w,cz (.ref b)])/\H'=upd H1 Dl (.lst ys)/\ys=((l8 0 n.toNat).take j).map (valAt es)/\ys.length<=j) ?_ ?_ ?_ ?_
   ·refine⟨⟨xn,?_⟩,rfl,rfl,aA _⟩;show [xn]++[(U[i]?).getD xn]=_;rw[q2];rfl
   ·rintro j ys U' H' ⟨_,rfl,_⟩;refine rJ _ (λz o hz=>?_);obtain⟨n1,n2⟩:=m8 hz;rw[c9 (λe=>by rw[e,hD]at n2;cases n2)];exact n2
   ·rintro j x ys U' H' Dp ⟨⟨w,rfl⟩,rfl,vK,yU⟩;obtain⟨rfl,zf⟩:=qI j x Dp;have rM:=(aO.mp zf).1;have Ef:(l8 0 n.toNat).length=n.toNat:=by simp[l8]
    have fin:∀v,v=valAt es (.int (j:Int))->(upd H1 Dl (.lst ys)) Dl=cz (.lst ys)/\ys.length<bg/\(∃w,[cz (V.int (j:Int)),cz (.ref b)]=[w,cz (.ref b)])/\upd (upd H1 Dl (.lst ys)) Dl (.lst (ys++[v]))=upd H1 Dl (.lst (ys++[v]))/\ys++[v]=((l8 0 n.toNat).take (j+1)).map (valAt es)/\(ys++[v]).length<=j+1:=λv hv=>by
     refine⟨i6,ij (cR yU (by lia)) (show 1000000<bg by rw[cY];decide),⟨_,rfl⟩,b5Z ..,?_,by rw[az];simp;lia⟩;rw[Cr,zf,aQ,<-vK,hv];rfl
    unfold M7 b0g;refine a3f ?_;refine⟨.ref b,rfl,⟨b,es,rfl,by rw[c9 BI];exact r2⟩,.int (j:Int),rfl,b,es,yH,.int (j:Int),.int (j:Int),rfl,rfl,by rw[c9 BI];exact r2,⟨λe he=>⟨(r5 e he).1,?_⟩,N1 rfl,den_int⟩,λhf=>?_,λe he gG=>?_⟩
    ·exact ((r5 e he).2.up k7).up λz o hz=>by rw[c9 (λq=>by rw[q,hD]at hz;cases hz)];exact hz
    ·refine fin .non ?_;unfold valAt;rw[a3G.mpr hf]
    ·refine fin e.2.2 ?_;have heq:aI e.1 (.int (j:Int))=yn:=(F5 e.1 _ (r5 e he).1.1 rfl).mpr gG;unfold valAt;cases xT:J6 es (.int (j:Int)) with
     |none=>
      have:=a3G.mp xT;unfold C1 at this;rw[eA]at this;exact absurd heq (this e he)
     |some i0=>
      obtain⟨e0,z1,z2⟩:=U4 xT;have z3:=(F5 e0.1 _ (r5 e0 (bw z1)).1.1 rfl).mp z2;have z4:=b4g hn he (bw z1) (gG.trans z3.symm);show _=((es.map (·.2.2))[i0]?).getD .non;rw[a_,z1,z4];rfl
   ·rintro ys U' H' ⟨_,rfl,vK,_⟩;have vJ:ys=(l8 0 n.toNat).map (valAt es):=by
     rw[vK,pE,oY]
    have ug:fs.Nodup:=by
     have:=(bR.mp (bR.mp (bR.mp a2).2.1).2.1).1;exact (bY.mp this).2
    obtain⟨jK,w1,w2,w3⟩:=b1Q pG hl (λe he=>(r5 e he).1) hn r6 ug n.toNat;have iS:Same (cut H1 F) (cut (upd H1 Dl (.lst ys)) (Dl::F)):=λz o hz=>by
     obtain⟨n1,n2⟩:=m8 hz;have Bg:z≠Dl:=λe=>by rw[e,hD]at n2;cases n2
     exact j7 (λq=>by rcases aG.mp q with q|q;exact Bg q;exact n1 q) (by rw[c9 Bg];exact n2)
    have keep:∀z∈F,upd H1 Dl (.lst ys) z=H1 z:=λz hz=>c9 λe=>Aj (e▸hz)
    have GC:∀z∈G1++(pre++(b::fs++post)),z∈F:=a3;have wD:∀z∈fs,z∈F:=λz hz=>a3 z (by simp[hz])
    have own:Own X.K (upd H1 Dl (.lst ys)) (Dl::F) (.l u) (.ref Dl) (.list ((l8 0 n.toNat).map λk=>(v5 kvs k).getD .none)) (Dl::jK):=by
     simp only[Own];refine .inr ⟨Dl,ys,_,jK,rfl,i6,rfl,rfl,?_⟩;have hd:((l8 0 n.toNat).map λk=>(v5 kvs k).getD .none)=(l8 0 n.toNat).map (a5r es ds):=by
      refine bK λk _=>?_
      rw[a5s k hl,r3]
     rw[hd,vJ];rw[vJ]at iS keep;exact n9 iS w1 λz hz=>keep z (wD z (w3 z hz))
    have q:=q5 (upd H1 Dl (.lst ys)) (Dl::F) .dead dd (cz (.ref b)) [] (λz hz=>keep z (a3 z (by
     rcases av.mp hz with y|y
     ·exact ai _ (ao _ y)
     ·exact ai _ (ai _ (ai _ y))))) iS rfl
    rw[set_same q1,set_same q2]at q;have qj:=(a4.frame iS λz hz=>keep z (a3 z (ao _ hz))).join (k6 (m:=.own (.l u)) (d:=.list ((l8 0 n.toNat).map λk=>(v5 kvs k).getD .none)) (o:=cz (.ref Dl)) (f:=Dl::jK) ⟨_,rfl,own⟩ q);refine k (.ref Dl) _ (Dl::F) (e1.trans (l9 hD _)) ⟨by simp[l1],by simp[l2],⟨⟨G1++(Dl::jK++(pre++([]++post))),by simpa using qj,?_,λz hz=>?_⟩,λz hz=>?_,S1.prot.trans iS⟩⟩
    ·refine eQ.mpr λz=>?_
     have c1:=eQ.mp a2 z;have c2:jK.count z<=fs.count z:=by
      by_cases hz:z∈jK
      ·have y1:=eQ.mp w2 z;have y2:=fB.mpr (w3 z hz);lia
      ·rw[jQ.mpr hz];lia
     by_cases hz:z=Dl
     ·subst hz;have y:(G1++(pre++(b::fs++post))).count z=0:=jQ.mpr λy=>Aj (a3 z y)
      simp only[bW,bG,gj,bM,FD,qx]at c1 y ⊢;lia
     ·have sC:(Dl==z)=yH:=gS.mpr λe=>hz e.symm
      simp only[bW,bG,gj,bM,sC,bz,du]at c1 ⊢;lia
    ·simp only[av,aG,bG,bM]at hz ⊢;rcases hz with y|y|y|y|y
     ·exact .inr (a3 z (by simp[y]))
     ·exact .inl y
     ·exact .inr (wD z (w3 z y))
     ·exact .inr (a3 z (by simp[y]))
     ·exact .inr (a3 z (by simp[y]))
    ·by_cases e:z=Dl
     ·subst e;exact⟨⟨.lst ys,trivial⟩,i6⟩
     ·rcases aG.mp hz with y|y
      ·exact absurd y e
      ·obtain⟨zs,w⟩:=S1.lst z y;exact⟨zs,by rw[c9 e];exact w⟩
  ·rw[aM c]at g3;cases g3
 |_=>rw[hZ]at g2;cases g2
end
def frz:Md->Md
 |.own .i=>.own .i
 |.own _=>.own .f
 |m=>m
section
variable {K:ae}{M:List Md}{Z:List D}{U:L2.St}{H P:Hp}{F:List aw}{i j:Nat}{t:Ty}{ds es:List D}
def StR.extendL(gZ:i≠j)(h:StR K M Z U H P F)(hi:M[i]?=cz (.own (.l t)))(hj:M[j]?=cz (.own (.l t)))(BM:Z.getD i .none=.list ds)(BL:Z.getD j .none=.list es) :
  ∃a b xs zs,U[i]?=cz (cz (.ref a))/\U[j]?=cz (cz (.ref b))/\H a=cz (.lst xs)/\H b=cz (.lst zs)/\xs.length=ds.length/\zs.length=es.length/\StR K (M.set j .dead) (Z.set i (.list (ds++es))) U (upd H a (.lst (xs++zs))) P F/\Den K (upd H a (.lst (xs++zs))) (.ref b) (.list es):=by
 obtain⟨G,h1,h2,h3⟩:=h.all;obtain⟨dj,oj,fj,rD,pq,Ce,yg,⟨vj,rfl,Oj⟩,Av,Fk⟩:=h1.at_ hj;rw[B7 Ce]at BL;subst BL;simp only[Own]at Oj;rcases Oj with⟨_,mT,_⟩|⟨b,zs,jL,gs,rfl,vc,lU,rfl,BQ⟩
 ·simp only[imm]at mT;cases mT
 cases lU
 rw[Av]at h2;have q1:=Fk H F .dead (.list es) (cz (.ref b)) [] (λ_ _=>rfl) (Same.refl _) rfl;rw[set_same Ce,set_same yg]at q1;have xS:(M.set j .dead)[i]?=cz (.own (.l t)):=by rw[bF (cV gZ)];exact hi
 obtain⟨di,oi,f1,qG,nR,Fn,yh,⟨vi,rfl,Oi⟩,Fm,Fl⟩:=q1.at_ xS;rw[B7 Fn]at BM;subst BM;simp only[Own]at Oi;rcases Oi with⟨_,mT,_⟩|⟨a,xs,jU,fi,rfl,sT,ke,rfl,BR⟩
 ·simp only[imm]at mT;cases mT
 cases ke
 have r_:rD++pq=qG++((a::fi)++nR):=by simpa using Fm
 have apart:=a1B h2;have iK:∀x∈rD++pq,x∈F:=λx hx=>h3 x (by rw[Av];exact mem_mid hx)
 have uv:a∈rD++pq:=by rw[r_];simp
 have rT:a≠b:=λz=>apart b aN (by rw[<-z];exact uv)
 have wX:a∈F:=iK a uv;have rR:Same (cut H F) (cut (upd H a (.lst (xs++zs))) F):=λc o' xY=>by
  obtain⟨r1,r2⟩:=m8 xY;have ne:c≠a:=λz=>r1 (by rw[z];exact wX)
  exact j7 r1 (by rw[c9 ne];exact r2)
 have wa:(qG++((a::fi)++nR)).Nodup:=by rw[<-r_];exact N7 h2
 have wV:a∉fi++nR:=by
  have:=(bR.mp wa).2.1;rw[bG,bY]at this;exact this.1
 have wU:a∉qG:=λz=>(bR.mp wa).2.2 a z a (by simp) rfl
 have Ab:a∉gs:=λz=>apart a (ax _ z) uv
 have LB:ListAll (Own K (upd H a (.lst (xs++zs))) F t) zs es gs:=BQ.imp λv d f hf _ q=>q.frame rR t λx hx=>c9 λz=>Ab (by rw[<-z];exact hf x hx)
 have LA:ListAll (Own K (upd H a (.lst (xs++zs))) F t) xs ds fi:=BR.imp λv d f hf _ q=>q.frame rR t λx hx=>c9 λz=>wV (ao _ (by rw[<-z];exact hf x hx))
 have own:Own K (upd H a (.lst (xs++zs))) F (.l t) (.ref a) (.list (ds++es)) (a::(fi++gs)):=by
  simp only[Own];exact .inr ⟨a,xs++zs,ds++es,fi++gs,rfl,i6,rfl,rfl,LA.append LB⟩
 have q2:=Fl _ _ (.own (.l t)) (.list (ds++es)) (cz (.ref a)) (a::(fi++gs)) (λx hx=>c9 λz=>by
  rcases av.mp hx with y|y
  ·exact wU (by rw[<-z];exact y)
  ·exact wV (ai _ (by rw[<-z];exact y))) rR ⟨_,rfl,own⟩
 rw[set_same xS,set_same yh]at q2;have oV:∀x,(rD++pq).count x=(qG++((a::fi)++nR)).count x:=λx=>by rw[r_]
 refine⟨a,b,xs,zs,yh,yg,sT,vc,BR.length,BQ.length,⟨⟨_,q2,X7 h2 λx=>?_,λx hx=>?_⟩,λx hx=>?_,h.prot.trans rR⟩,den_list (.inl (.inl (by rw[c9 (cV rT)];exact vc))) (ListAll.den (λv d f q=>q.den) LB)⟩
 ·have:=oV x;simp only[bW,bG,gj]at this ⊢;lia
 ·have vN:x∈qG++((a::fi)++nR)\/x∈gs:=by
   simp only[av,aG,bG]at hx ⊢;rcases hx with z|z|(z|z)|z
   ·exact .inl (.inl z)
   ·exact .inl (.inr (.inl z))
   ·exact .inl (.inr (.inr (.inl z)))
   ·exact .inr z
   ·exact .inl (.inr (.inr (.inr z)))
  rcases vN with z|z
  ·exact iK x (by rw[r_];exact z)
  ·exact h3 x (by rw[Av];simp[z])
 ·by_cases z:x=a
  ·exact⟨⟨.lst (xs++zs),trivial⟩,by rw[z,i6]⟩
  ·rw[c9 z];exact h.lst x hx
end
def a2q(i j:Nat):EvS:=λZ=>match Z.getD i .none,Z.getD j .none with
 |.list ds,.list es=>if ds.length+es.length<=1000000 then cz (.nx (Z.set i (.list (ds++es)))) else xn
 |_,_=>xn
section
variable {X:Cx}{M M1 ML:List Md}{w t:Ty}{e iter:Expr}{f:EvE}{fi:EvA}{x y z:bA}{px py pz pm pos nS vB apos cJ:fS}
def b7c(i j jm:Nat)(gZ:i≠j)(xU:j≠jm)(Eh:i≠jm)(hM:M=(M1.set j .dead).set jm .dead)(hc:X.calm=yn)(hp:oJ (aX X.prog X.w) X.A X.env X.xe)(ya:X.N.Nodup)(hi:PIX X M1 (.Name z pm) iter fi)(hL:PXL X M j e f (.new (.l t)))
  (qN:M1[i]?=cz (.own (.l t)):=by rfl) (sJ:M1[j]?=cz (.own (.l t)):=by rfl) (tZ:M1[jm]?=cz mm:=by rfl) (x_:X.N[i]?=cz x:=by rfl) (xZ:X.N[j]?=cz y:=by rfl) (EV:X.N[jm]?=cz z:=by rfl)
  (qJ:autoParam (NmV X x) ZY._auto_1)
  (tL:autoParam (NmV X y) ZY._auto_1)
  (wg:autoParam (Loc X.env.scope y) ZX._auto_1) (xW:autoParam (X.fn y=yn\/X.env.scope.names.lookup y=cz .local) ZW._auto_1)
  (DX:autoParam (Loc X.env.scope z) ZX._auto_1) (Es:autoParam (X.fn z=yn\/X.env.scope.names.lookup z=cz .local) ZW._auto_1)
  (fJ:dZ (.Name x px) "extend" X.env (cD (.Name x px) X.env)=cD (.Name x px) X.env:=by rfl)
  (iQ:((cy cJ (aq [.Name y py] X.env)).all (λx=>!x.1)&&(eX cJ (dt [] X.env)).all (λx=>x.1.isSome)
   && decide (([.Name y py]:List Expr).length+([]:List eO).length+(if ([]:List eO).isEmpty then 0 else 1)<30))=yn:=by rfl)
  (fI:(apos.endLine==cJ.line)=yn:=by rfl) (hs:aq [.Name y py] X.env=(yH,cD (.Name y py) X.env)::aq [] X.env:=by rfl) (eG:(cy cJ (aq [] X.env)).any (·.1)=yH:=by rfl)
  (pQ:eR (.Call (.Attribute (.Name x px) "extend" apos) [.Name y py] [] cJ) xn vB.line X.env=pure yH:=by rfl) (tN:eR e (cz (.Name y pz)) nS.line X.env=pure yH:=by rfl)
  (hf:∀x,eK iter X.env x=pure x:=by intro _;rfl) :
  PSX X w ML M1 (.For (.Name z pm) iter [.Assign [.Name y pz] e nS,.Expr (.Call (.Attribute (.Name x px) "extend" apos) [.Name y py] [] cJ) vB] [] pos) (C6 fi (r0 jm) (g9 (j8 j f) (a2q i j))) M:=by
 obtain⟨wi,pi,qi⟩:=hi;obtain⟨te,pe,qe⟩:=hL;have lm:jm<M1.length:=(aO.mp tZ).1;have lj:j<M1.length:=(aO.mp sJ).1;have EY:M[i]?=cz (.own (.l t)):=by rw[hM,bF (cV Eh),bF (cV gZ)];exact qN
 have Ag:M[j]?=cz .dead:=by rw[hM,bF (cV xU),dM lj]
 have BO:M[jm]?=cz .dead:=by rw[hM,dM (by rw[GU];exact lm)]
 refine .mk ⟨_,a8m hp hc pi (p5 ya EV DX Es) (Q9 (a8k ya xZ wg pe tN xW) (a9P (P3 (a5a eS sg sf a5b (A5 x_ qJ.1 qJ.2.1 qJ.2.2) (l6 (A5 xZ tL.1 tL.2.1 tL.2.2) o9 hs) fJ iQ fI hs eG) pQ))) hf,λE Z U H P F o S oG k=>?_⟩;obtain⟨ds,h1,g1⟩:=bnd oG;refine qi Z U H P F ds _ S.toE h1 λJ xs Pr H1 e1 hw rJ hx=>?_
 have S1:=S.grow e1;have pE:=hx.length;obtain⟨v0,f0,sE,o0,_⟩:=S1.toE.get sJ;have S0:StR X.K M Z U H1 P F:=by
  rw[hM];exact (S1.dead sJ).dead (m:=mm) (by rw[bF xU];exact tZ)
 refine⟨λn m U' H'=>m=xs.length-n/\n<=xs.length/\∃Z' F' v,StR X.K M Z' U' H' (cut H1 F) F'/\U'[j]?=cz (cz v)/\Den X.K H' v (Z'.getD j .none)/\W4 (r0 jm) (g9 (j8 j f) (a2q i j)) (ds.drop n) Z'=cz o,⟨xs.length,by simp,cG _,Z,F,v0,⟨S0.all,S0.lst,Same.refl _⟩,sE,o0.den,g1⟩,?_⟩;rintro n m U' H' ⟨rfl,hn,Z',F',v,S',hv,kT,hfl⟩;have q:=rJ H' (S'.prot.trans k7);by_cases jz:n<xs.length
 ·refine .inr ⟨hw.go n H' q jz,λU2 H2=>∃Z2 F2 v2,StR X.K M Z2 U2 H2 (cut H1 F) F2/\U2[j]?=cz (cz v2)/\Den X.K H2 v2 (Z2.getD j .none)/\W4 (r0 jm) (g9 (j8 j f) (a2q i j)) (ds.drop (n+1)) Z2=cz o,λU2 H2 zz=>⟨xs.length-(n+1),by lia,rfl,jz,zz⟩,λvx H2 hy=>?_⟩;obtain⟨rfl,qI⟩:=hw.yld n H' vx H2 q jz hy;have nu:n<ds.length:=by lia
  rw[dP nu]at hfl;obtain⟨Z1,uU,g2⟩:=bnd (show (r0 jm Z' ds[n]).bind _=cz o from hfl);cases uU
  obtain⟨o1,hg1,g3⟩:=bnd g2;obtain⟨oa,EN,EM⟩:=bnd (show (j8 j f (Z'.set jm ds[n])).bind _=cz o1 from hg1);obtain⟨dy,wC,DJ⟩:=bnd (show (f (Z'.set jm ds[n])).bind (λd=>cz (Out.nx ((Z'.set jm ds[n]).set j d)))=cz oa from EN);cases DJ
  have S2:=S'.kill BO ds[n] (cz vx);rw[set_same BO]at S2;have uS:(U'.set jm (cz vx))[j]?=cz (cz v):=by rw[bF (cV xU)];exact hv
  have hd2:(Z'.set jm ds[n]).getD j .none=Z'.getD j .none:=by rw[ah,bF (cV xU),ah]
  refine qe _ (U'.set jm (cz vx)) H2 (cut H1 F) F' dy v _ S2.toE uS (by rw[hd2];exact kT) wC λvy H3 e3 ⟨fp,o3,n3,f3⟩=>?_
  have S3:=S2.set Ag e3 o3 n3 f3;have Ah:(M.set j (.own (.l t)))[i]?=cz (.own (.l t)):=by rw[bF (cV gZ)];exact EY
  have Af:(M.set j (.own (.l t)))[j]?=cz (.own (.l t)):=dM (aO.mp Ag).1;have zS:∃es fs,((Z'.set jm ds[n]).set j dy).getD i .none=.list es/\((Z'.set jm ds[n]).set j dy).getD j .none=.list fs/\es.length+fs.length<=1000000/\o1=.nx (((Z'.set jm ds[n]).set j dy).set i (.list (es++fs))):=by
   have pX:a2q i j ((Z'.set jm ds[n]).set j dy)=cz o1:=EM;unfold a2q at pX;generalize ((Z'.set jm ds[n]).set j dy).getD i .none=d1 at pX;generalize ((Z'.set jm ds[n]).set j dy).getD j .none=d2 at pX;cases d1 with
   |list es=>
    cases d2 with
    |list fs=>
     have h':(if es.length+fs.length<=1000000 then cz (Out.nx (((Z'.set jm ds[n]).set j dy).set i (.list (es++fs)))) else xn)=cz o1:=pX;by_cases cc:es.length+fs.length<=1000000
     ·rw[aE cc]at h';exact⟨es,fs,rfl,rfl,cc,(aK h').symm⟩
     ·rw[aM cc]at h';cases h'
    |_=>cases pX
   |_=>cases pX
  obtain⟨es,fs,Ex,ug,jI,rfl⟩:=zS;obtain⟨a,b,uM,xA,tH,rE,sT,vc,l1,l2,S4,D4⟩:=S3.extendL gZ Ah Af Ex ug;have hz:bg=16777216:=cY;refine⟨.ref a,tH,.inl ⟨rfl,uM,SqL.of sT⟩,.ref b,rE,a,b,uM,xA,rfl,rfl,sT,vc,by lia,?_⟩;rw[List.set_set,set_same Ag]at S4;refine⟨_,_,.ref b,S4,rE,?_,g3⟩;rw[ah,bF gZ,<-ah,ug];exact D4
 ·have e:n=xs.length:=by lia
  subst e;rw[pE,iY]at hfl;have:o=.nx Z':=(aK hfl).symm;subst this;exact .inl ⟨hw.stop _ H' q (aA _),k U' H' F' ⟨S'.all,S'.lst,S0.prot.trans S'.prot⟩⟩
end
def a7y(i:Nat)(f:EvE):EvS:=λZ=>(f Z).bind λd=>match d,Z.getD i .none with
 |.list es,.list ds=>if ds.length+es.length<=1000000 then cz (.nx (Z.set i (.list (ds++es)))) else xn
 |_,_=>xn
section
variable {X:Cx}{t w:Ty}{ML M:List Md}{e:Expr}{f:EvE}{pos apos cJ:fS}{x:bA}{px:fS}
def b7d(i:Nat)(he:PX X M e f (.new (.l t)))(hm:M[i]?=cz (.own (.l t)):=by rfl)(hN:X.N[i]?=cz x:=by rfl)(hv:Vis X.env.scope x:=by first|exact dW rfl|exact gW (dW rfl)|exact gW (gW rfl))(hd:(x==("__debug__":bA))=yH:=by decide)
  (kU:(x==("__classdict__":bA))=yH:=by decide)
  (fJ:dZ (.Name x px) "extend" X.env (cD (.Name x px) X.env)=cD (.Name x px) X.env:=by rfl)
  (iQ:((cy cJ (aq [e] X.env)).all (λx=>!x.1)&&(eX cJ (dt [] X.env)).all (λx=>x.1.isSome)
   && decide ([e].length+([]:List eO).length+(if ([]:List eO).isEmpty then 0 else 1)<30))=yn:=by rfl)
  (fI:(apos.endLine==cJ.line)=yn:=by rfl) (hs:aq [e] X.env=(yH,cD e X.env)::aq [] X.env:=by rfl) (eG:(cy cJ (aq [] X.env)).any (·.1)=yH:=by rfl)
  (pQ:eR (.Call (.Attribute (.Name x px) "extend" apos) [e] [] cJ) xn pos.line X.env=pure yH:=by rfl) :
  PSX X w ML M (.Expr (.Call (.Attribute (.Name x px) "extend" apos) [e] [] cJ) pos) (a7y i f) M:=by
 obtain⟨te,pe,qe⟩:=he.out;refine .mk ⟨_,P3 (a5a eS sg sf a5b (A5 hN hv hd kU) (l6 pe o9 hs) fJ iQ fI hs eG) pQ,λD Z U H P F o S hg k=>?_⟩;obtain⟨d,h3,g3⟩:=bnd hg;have hl:∃es ds,d=.list es/\Z.getD i .none=.list ds/\ds.length+es.length<=1000000/\o=.nx (Z.set i (.list (ds++es))):=by
  cases d with
  |list es=>
   cases hr:Z.getD i h_ with
   |list ds=>
    rw[hr]at g3;have yd:(if ds.length+es.length<=1000000 then cz (Out.nx (Z.set i (.list (ds++es)))) else xn)=cz o:=g3;by_cases c:ds.length+es.length<=1000000
    ·rw[aE c]at yd;exact⟨es,ds,rfl,rfl,c,(aK yd).symm⟩
    ·rw[aM c]at yd;cases yd
   |_=>rw[hr]at g3;cases g3
  |_=>cases g3
 obtain⟨es,ds,rfl,hr,hz,rfl⟩:=hl;obtain⟨v0,f0,e0,o0,CN⟩:=S.toE.get hm;rw[hr]at o0;simp only[Own]at o0;rcases o0 with⟨_,hi,_⟩|⟨b,xs,jU,fs,rfl,hH,ke,rfl,hL⟩
 ·simp only[imm]at hi;cases hi
 cases ke
 refine⟨.ref b,e0,.inl ⟨rfl,xs,SqL.of hH⟩,qe Z U H P F _ _ S.toE h3 λv1 H1 e1 ⟨fp,o1,nd,fr⟩=>?_⟩;obtain⟨_,_,S1⟩:=S.pend.new e1 o1 nd fr;have FE:StR X.K (.own (.l t)::M) (.list es::Z) (cz v1::U) H1 P (fp++F):=S1;obtain⟨a,b',uM,xA,tH,rE,sT,vc,l1,l2,S4,_⟩:=FE.extendL (i:=i+1) (j:=0) (by lia) (by simpa using hm) rfl (by simpa using hr) rfl;have ea:b=a:=by
  have:(cz (cz (V.ref b)):Option (Option V))=cz (cz (.ref a)):=by rw[<-e0];simpa using tH
  cases this;rfl
 subst ea;cases (show (cz (cz v1):Option (Option V))=cz (cz (.ref b')) from rE)
 have vM:uM=xs:=by rw[e1 _ _ hH]at sT;cases sT;rfl
 subst vM;have jI:bg=16777216:=cY;refine⟨b,b',uM,xA,rfl,rfl,sT,vc,by lia,k U _ (fp++F) ?_⟩;obtain⟨G,q1,q2,q3⟩:=S4.all;have AU:StAll X.K (upd H1 b (.lst (uM++xA))) (fp++F) (.dead::M) (.list es::Z.set i (.list (ds++es))) (cz (.ref b')::U) G:=q1;simp only[StAll]at AU;obtain⟨d,Z',o',U',f',g',z1,z2,rfl,z4,z5⟩:=AU;cases z1
 cases z2
 have Cy:f'=[]:=z4;subst Cy;exact⟨⟨g',z5,by simpa using q2,λa ha=>q3 a (by simpa using ha)⟩,S4.lst,S4.prot⟩
end
end VS
namespace VS
open PySem.Spec L2
open PyProof.Rows (KeyOrd)
section
variable {O:KeyOrd}{key:Nat->O.α}{N:Nat}{sh:au}{cmp:Nat->Nat->(Bool->au->Prop)->au->Prop}
def kyP(key:Nat->O.α)(p:Array Nat)(i:Nat):O.α:=key (p.getD i 0)
def b1S(key:Nat->O.α)(p:Array Nat)(k:Nat):Prop:=∀i j,i<=j->j<k->O.kle (kyP key p i) (kyP key p j)
def AllN(N:Nat)(p:Array Nat):Prop:=p.toList.Perm (aB N)
theorem AllN.size(h:AllN N p):p.size=N:=by
 have:=h.length_eq;simpa using this
end
end VS
namespace PySem
def Heap.RawDict(hp:cB)(d:aw)(rows:Array iP)(ep:Nat):Prop:=∃u,hp.get? d=cz u/\u.ExactDict/\u.data=.dict rows ep
section
variable {prog:bu}{w:bV}{A:bP}{E:ak->au->Prop}{sh:au}{d it:aw}{rows:Array iP}{ep i:Nat}
def Heap.RawDict.at{h h':cB}(x:h.RawDict d rows ep)(e:∀o,h.get? d=cz o->h'.get? d=cz o):h'.RawDict d rows ep:=let⟨u,hu,r⟩:=x;⟨u,e _ hu,r⟩
def Heap.RawDict.typeIs(x:sh.heap.RawDict d rows ep):sh.TypeIs (.ref d) "dict":=let⟨u,hu,r,_⟩:=x;⟨u,hu,r.1⟩
def b4h(h0:(d==dG)=yH)(hm:sh.heap.RawDict d rows ep)
  (q:Q (.ref sh.heap.objs.size) {sh with heap:=sh.heap.push {cls:=.type "dict_keyiterator",data:=.fields #[.ref d,.int 0 0,.int rows.size 0,.int ep 0]}}) :
  aZ (aX prog w) A (pyIter (.ref d)) Q E sh:=by
 obtain⟨u,hu,hx,kI⟩:=id hm;refine wpAny_pyIter_slot hm.typeIs F.slot_dict_iter (et F.slot_dict_iter hm.typeIs F.entry_dict_iter ?_ (F.args_dict_iter_1 _));unfold Builtin.«dict.__iter__»;refine af ?_;unfold Builtin.Dict.dictSlotNone;refine af (ng hm.typeIs ?_);show aZ _ _ (pure (bL d)) _ _ sh;refine aC ?_;show aZ _ _ (GY d >>= _) _ _ sh;unfold GY;rw[aM (by rw[h0];exact cj)];refine af (aC (af (gP hu kI (af (tx hu kI ?_)))));refine af (i_ (aC ⟨_,rfl,"dict_keyiterator",_,⟨_,bo _ rfl,rfl⟩,fw.lookup,?_⟩));simpa[jy]using q
def b4i(hI:sh.heap.IsKeyIter it d i rows.size ep)(hm:sh.heap.RawDict d rows ep)(hi:i<rows.size)
  (q:∀h',h'.IsKeyIter it d (i+1) rows.size ep->kB it sh.heap h'->Q (cz rows[i].key) {sh with heap:=h'}):aZ (aX prog w) A (vA (.ref it)) Q E sh:=by
 obtain⟨x,hx,Bl,tJ⟩:=id hI;obtain⟨u,hu,_,vQ⟩:=id hm;unfold vA;refine af (jF (fZ (name:=cI "__next__") hI.typeIs fw (et fw hI.typeIs tu ?_ (sr _))));refine af (aC (af (af ?_)))
 first|refine af (gA hI.typeIs (aC ?_))|refine af (iw hI.typeIs (aC ?_))
 refine af (wpAny_fieldsOf hx tJ ?_);simp only[show uL "dict_keyiterator"=yH from by decide,bz,du];show aZ _ _ (if (bL d==bx)=yn then _ else _) _ _ sh;rw[aM (show ¬ (bL d==bx)=yn from cj)];refine af (aC (af (gP hu vQ ?_)));rw[aM (by simp)];refine af (aC (af (tx hu vQ ?_)));rw[aM (by simp)];refine aC ?_;simp only[show ¬ (i:Int)<0 from by lia,du,bS,bC hi];refine af ?_
 first|refine af (gA hI.typeIs (aC ?_))|refine af (iw hI.typeIs (aC ?_))
 refine af (FT hI.typeIs ?_);show aZ _ _ (setField (.ref it) 1 (jy ((i:Int)+1)) >>= _) _ _ sh;refine af (wpAny_setField hx tJ (by simp) ?_);have BU:(sh.heap.update it (fV.mapFields (·.setIfInBounds 1 (jy ((i:Int)+1))))).IsKeyIter it d (i+1) rows.size ep:=
  ⟨_,cS _ hx (fV.isFreed_of_fields (fV.data_mapFields tJ _)),(fV.cls_mapFields ..).trans Bl,by rw[fV.data_mapFields tJ];simp[jy]⟩
 refine af (c_ ?_);refine af (FT (s:={sh with heap:=sh.heap.update it (fV.mapFields (·.setIfInBounds 1 (jy ((i:Int)+1))))}) BU.typeIs ?_);show aZ _ _ (pure rows[i].key) _ _ _;exact aC (aC ⟨_,rfl,aC (q _ BU (fC ..))⟩)
def b4j(hh:A.handled=xn)(hI:sh.heap.IsKeyIter it d i rows.size ep)(hm:sh.heap.RawDict d rows ep)(hi:rows.size<=i)
  (q:∀h',cB.ExtBut it sh.heap h'->Q xn {sh with heap:=h'}):aZ (aX prog w) A (vA (.ref it)) Q E sh:=by
 obtain⟨x,hx,Bl,tJ⟩:=id hI;obtain⟨u,hu,_,vQ⟩:=id hm;unfold vA;refine af (jF (fZ (name:=cI "__next__") hI.typeIs fw (et fw hI.typeIs tu ?_ (sr _))));refine af (aC (af (af ?_)))
 first|refine af (gA hI.typeIs (aC ?_))|refine af (iw hI.typeIs (aC ?_))
 refine af (wpAny_fieldsOf hx tJ ?_);simp only[show uL "dict_keyiterator"=yH from by decide,bz,du];show aZ _ _ (if (bL d==bx)=yn then _ else _) _ _ sh;rw[aM (show ¬ (bL d==bx)=yn from cj)];refine af (aC (af (gP hu vQ ?_)));rw[aM (by simp)];refine af (aC (af (tx hu vQ ?_)));rw[aM (by simp)];refine aC ?_;simp only[show ¬ (i:Int)<0 from by lia,du,bS,fY hi];refine af ?_
 first|refine af (gA hI.typeIs (aC ?_))|refine af (iw hI.typeIs (aC ?_))
 show aZ _ _ (setField (.ref it) 0 .none >>= _) _ _ sh;refine af (wpAny_setField hx tJ (by simp) ?_);show aZ _ _ (newExc (.type "StopIteration") [] >>= _) _ _ _;refine af ?_;simp only[newExc,newTuple];refine af (i_ ?_ (by size_fits));refine af (m:=firstArgMember _ _) (wpAny_of_eq (a:=bx) (by first|rfl|(simp only[firstArgMember];rfl)) ?_);refine i_ ?_ (by size_fits);simp only[raiseNew];refine af (wpAny_handled ?_);rw[show A.in1.handled=xn from hh];refine af (aC (wpAny_throw ?_));refine af (lX (b:=yn) (T:="StopIteration") ⟨_,bo _ rfl,rfl⟩ isSubtype_stop ?_);exact aC (q _ (((fC ..).extBut.push _).push _))
def b1T(hh:A.handled=xn)(jg:d≠it):Walks prog w A it [it,d] [it] rows.size (λi v=>∃e,rows[i]?=cz e/\v=e.key) (λi h=>h.IsKeyIter it d i rows.size ep/\h.RawDict d rows ep) where
 sub:=λb hb=>aG.mpr (.inl (ar.mp hb))
 frame:=λ_ _ _ st hk=>⟨st.1.at λo e=>hk it aN o e,st.2.at λo e=>hk d (ax _ aN) o e⟩
 item:=λi s Q E hi st q=>b4i st.1 st.2 hi λh' hI hs=>q _ h' s.toks ⟨rows[i],bC hi,rfl⟩ ⟨hI,st.2.at λo e=>hs.extBut d o jg e⟩ λb o hb e=>hs.extBut b o (λz=>hb (by rw[z];exact ar.mpr rfl)) e
 done:=λs Q E st q=>b4j hh st.1 st.2 (aA _) λh' he=>q h' s.toks λb o hb e=>he b o (λz=>hb (by rw[z];exact ar.mpr rfl)) e
 self:=λ_ _ _ _ st q=>wpAny_pyIter_keyiter st.1 q
def b7e(h0:(d==dG)=yH):W.KdlSrc prog w "dict" d d rows.size (λi v=>∃e,rows[i]?=cz e/\v=e.key) (λh=>h.RawDict d rows ep) where
 type:=λ_ hm=>hm.typeIs
 there:=λh hm=>let⟨_,hu,_⟩:=hm;⟨aS hu,aS hu⟩
 keep:=λ_ _ hm hk=>hm.at λo e=>hk d (.inl rfl) o e
 notList:=by decide
 notTuple:=by decide
 hint:=λ_ _ s _ hm q=>W.kdl_hint_dict (Heap.RawDict.typeIs (sh:=s) hm) q
 iter:=λ_ _ hh hm=>⟨_,_,(λ_ _ q=>b4h h0 hm q),b1T hh (let⟨_,hu,_⟩:=hm;bI (aS hu)),⟨⟨_,bo _ rfl,rfl,rfl⟩,hm.at λ_ e=>aF _ e⟩⟩
end
end PySem
namespace VS
open PyProof.Rows
def a6r:Bool->bQ->Array bQ->Nat->Nat->Nat->StateT dg AD (Option Nat):=sortPriv% PySem.Builtin.gallop
structure CmpS (prog:bu) (w:bV) (A:bP) (s:au) (κ:eY) (O:KeyOrd) (ky:bQ->O.α) (S:bQ->Prop):Prop where
 lt:∀x y:bQ,S x->S y->∀C:Bool->au->Prop,C (O.blt (ky x) (ky y)) s->aZ (aX prog w) A (keyLt' κ x.1 y.1) C (λ_ _=>False) s
section
variable {prog:bu}{w:bV}{A:bP}{E:ak->au->Prop}{s:au}{κ:eY}{O:KeyOrd}{ky:bQ->O.α}{S:bQ->Prop}{st:dg}
def a3H(H:CmpS prog w A s κ O ky S)(hk:kindOf st=κ)(hx:S x)(hy:S y)(h:Q (cz (O.blt (ky x) (ky y))) st):tw (aX prog w) A E s (lt' x y) Q st:=by
 rw[lt'_eq];refine aU (nc ?_);rw[hk];refine aU (wpS_lift (jF ?_));refine dh (H.lt x y hx hy (λb s'=>b=O.blt (ky x) (ky y)/\s'=s) ⟨rfl,rfl⟩) (λb s' hb=>?_) λ_ _ e=>e.elim
 obtain⟨rfl,rfl⟩:=hb;exact⟨rfl,be h⟩
def m4{arr:Array bQ}(hi:i<arr.size)(h:Q arr[i] st):tw (aX prog w) A E s (elem' arr i) Q st:=by
 rw[elem'_eq,bC hi];exact be h
def b4k(ky:bQ->O.α)(S:bQ->Prop)(arr:Array bQ)(base n:Nat)(ka:Nat->O.α):Prop:=∀i,i<n->∃h:base+i<arr.size,ky arr[base+i]=ka i/\S arr[base+i]
def prG(left:Bool)(k:O.α)(ka:Nat->O.α)(i:Nat):Bool:=if left then O.blt (ka i) k else !O.blt k (ka i)
def O5(H:CmpS prog w A s κ O ky S)(hk:kindOf st=κ)(P:b4k ky S arr base n ka)(hS:S key)(hi:i<n)(h:Q (cz (prG left (ky key) ka i)) st) :
  tw (aX prog w) A E s (do let x <-elem' arr (base+i);if left then lt' x key else return (<-lt' key x).map (!·)) Q st:=by
 obtain⟨hb,e,hs⟩:=P i hi;refine aU (m4 hb ?_);unfold prG at h;cases left with
 |true=>exact a3H H hk hs hS (by rw[e];exact h)
 |false=>exact aU (a3H H hk hS hs (be (by rw[e];exact h)))
def a3I(H:CmpS prog w A s κ O ky S)(hk:kindOf st=κ)(P:b4k ky S arr base n ka)(hS:S key)(hh:hint<n)(mono:∀i j,i<=j->j<n->prG left (ky key) ka j=yn->prG left (ky key) ka i=yn) 
  (q:∀k,k<=n->(∀i,i<k->prG left (ky key) ka i=yn)->(∀i,k<=i->i<n->prG left (ky key) ka i=yH)->Q (cz k) st):tw (aX prog w) A E s (a6r left key arr base n hint) Q st:=by
 have uB:∀i j,i<=j->j<n->prG left (ky key) ka i=yH->prG left (ky key) ka j=yH:=λi j gZ hj hi=>by
  cases c:prG left (ky key) ka j with
  |false=>rfl
  |true=>rw[mono i j gZ hj c]at hi;cases hi
 refine aU (O5 H hk P hS hh ?_);have xp:∀f:Nat->(Option (Option Nat)×Nat×Nat)->StateT dg AD (ForInStep (Option (Option Nat)×Nat×Nat)),
   (∀x l r (Q':ForInStep (Option (Option Nat)×Nat×Nat)->dg->Prop),l≥r->Q' (.done (xn,l,r)) st->tw (aX prog w) A E s (f x (xn,l,r)) Q' st)->
   (∀x l r (Q':ForInStep (Option (Option Nat)×Nat×Nat)->dg->Prop),¬ l≥r->l+(r-l) / 2<n->(prG left (ky key) ka (l+(r-l) / 2)=yn->Q' (.yield (xn,l+(r-l) / 2+1,r)) st)->(prG left (ky key) ka (l+(r-l) / 2)=yH->Q' (.yield (xn,l,l+(r-l) / 2)) st)->tw (aX prog w) A E s (f x (xn,l,r)) Q' st)->
   ∀lo hi,lo<=hi->hi<=n->(∀i,i<lo->prG left (ky key) ka i=yn)->(∀i,hi<=i->i<n->prG left (ky key) ka i=yH)->
   tw (aX prog w) A E s (forIn [0:n] ((xn:Option (Option Nat)),lo,hi) f) (λc cL=>cL=st/\∃r,c=(xn,r,r)/\r<=n/\(∀i,i<r->prG left (ky key) ka i=yn)/\(∀i,r<=i->i<n->prG left (ky key) ka i=yH)) st:=by
  intro f f1 f2 lo hi h1 h2 h3 h4;refine dE (I:=λx c cL=>cL=st/\∃l r,c=(xn,l,r)/\l<=r/\r<=n/\r-l<=n-x/\(∀i,i<l->prG left (ky key) ka i=yn)/\(∀i,r<=i->i<n->prG left (ky key) ka i=yH)) ?step ?fin ⟨rfl,lo,hi,rfl,h1,h2,by lia,h3,h4⟩
  case fin=>
   rintro c cL ⟨rfl,l,r,rfl,g1,g2,g3,g4,g5⟩;have:l=r:=by lia
   subst this;exact⟨rfl,l,rfl,g2,g4,g5⟩
  case step=>
   rintro x c cL _ hx ⟨rfl,l,r,rfl,g1,g2,g3,g4,g5⟩;by_cases c:l≥r
   ·have:l=r:=by lia
    subst this;exact f1 x l l _ c ⟨rfl,l,rfl,g2,g4,g5⟩
   ·refine f2 x l r _ c (by lia) (λd=>?_) λd=>?_
    ·exact⟨rfl,_,_,rfl,by lia,g2,by lia,λi hi=>mono i _ (show i<=l+(r-l) / 2 by lia) (by lia) d,g5⟩
    ·exact⟨rfl,_,_,rfl,by lia,by lia,by lia,g4,λi hi hn=>uB _ i hi hn d⟩
 dsimp only
 cases d:prG left (ky key) ka hint with
 |true=>
  rw[aE rfl];refine aU (fM (dE (I:=λx c cL=>cL=st/\∃l o,c=(xn,l,o)/\l<o/\x+1<=o/\hint+l<n/\prG left (ky key) ka (hint+l)=yn)
   (Q:=λc cL=>cL=st/\∃l o,c=(xn,l,o)/\l<o/\hint+l<n/\prG left (ky key) ka (hint+l)=yn/\(hint+o<n->prG left (ky key) ka (hint+o)=yH)) ?step ?fin ⟨rfl,0,1,rfl,by lia,by lia,by lia,d⟩) ?post)
  case fin=>
   rintro c cL ⟨rfl,l,o,rfl,g1,g2,g3,g4⟩;exact⟨rfl,l,o,rfl,g1,g3,g4,λz=>by lia⟩
  case post=>
   rintro c cL ⟨rfl,l,o,rfl,g1,g2,g3,g4⟩
   dsimp only
   refine aU (fM (xp _ (λx l r Q' c h=>?_) (λx l r Q' c hm ht hf=>?_) (hint+l+1) (hint+min o (n-hint)) (by lia) (by lia) (λi hi=>mono i (hint+l) (by lia) g2 g3) (λi hi hn=>(dD (hint+o) n).elim (λz=>uB (hint+o) i (by lia) hn (g4 z)) λz=>by lia)) λc cL ⟨e,r,e2,r1,r2,r3⟩=>?_)
   ·dsimp only;rw[aE c];exact be h
   ·dsimp only
    rw[aM c];refine aU (O5 H hk P hS hm ?_)
    dsimp only
    cases d':prG left (ky key) ka (l+(r-l) / 2) with
    |true=>rw[aE rfl];exact be (ht d')
    |false=>simp only[bz,du];exact be (hf d')
   ·subst e e2;exact be (q r r1 r2 r3)
  case step=>
   rintro x c cL _ hx ⟨rfl,l,o,rfl,g1,g2,g3,g4⟩
   dsimp only
   by_cases c:o≥n-hint
   ·rw[aE c];exact be ⟨rfl,l,o,rfl,g1,g3,g4,λz=>by lia⟩
   ·rw[aM c];refine aU (O5 H hk P hS (show hint+o<n by lia) ?_)
    dsimp only
    cases e:prG left (ky key) ka (hint+o) with
    |true=>
     simp only[ic,bz,du];exact be ⟨rfl,o,2*o+1,rfl,by lia,by lia,by lia,e⟩
    |false=>
     simp only[Bool.not_false,qx];exact be ⟨rfl,l,o,rfl,g1,g3,g4,λ_=>e⟩
 |false=>
  simp only[bz,du];refine aU (fM (dE (I:=λx c cL=>cL=st/\∃l o,c=(xn,l,o)/\l<o/\x+1<=o/\l<=hint/\prG left (ky key) ka (hint-l)=yH)
   (Q:=λc cL=>cL=st/\∃l o,c=(xn,l,o)/\l<o/\l<=hint/\prG left (ky key) ka (hint-l)=yH/\(o<=hint->prG left (ky key) ka (hint-o)=yn)) ?step ?fin ⟨rfl,0,1,rfl,by lia,by lia,by lia,d⟩) ?post)
  case fin=>
   rintro c cL ⟨rfl,l,o,rfl,g1,g2,g3,g4⟩;exact⟨rfl,l,o,rfl,g1,g3,g4,λz=>by lia⟩
  case post=>
   rintro c cL ⟨rfl,l,o,rfl,g1,g2,g3,g4⟩
   dsimp only
   refine aU (fM (xp _ (λx l r Q' c h=>?_) (λx l r Q' c hm ht hf=>?_) (hint+1-min o (hint+1)) (hint-l) (by lia) (by lia) (λi hi=>(dD hint o).elim (λz=>by lia) λz=>mono i (hint-o) (by lia) (by lia) (g4 z)) (λi hi hn=>uB (hint-l) i (by lia) hn g3)) λc cL ⟨e,r,e2,r1,r2,r3⟩=>?_)
   ·dsimp only;rw[aE c];exact be h
   ·dsimp only
    rw[aM c];refine aU (O5 H hk P hS hm ?_)
    dsimp only
    cases d':prG left (ky key) ka (l+(r-l) / 2) with
    |true=>rw[aE rfl];exact be (ht d')
    |false=>simp only[bz,du];exact be (hf d')
   ·subst e e2;exact be (q r r1 r2 r3)
  case step=>
   rintro x c cL _ hx ⟨rfl,l,o,rfl,g1,g2,g3,g4⟩
   dsimp only
   by_cases c:o≥hint+1
   ·rw[aE c];exact be ⟨rfl,l,o,rfl,g1,g3,g4,λz=>by lia⟩
   ·rw[aM c];refine aU (O5 H hk P hS (show hint-o<n by lia) ?_)
    dsimp only
    cases e:prG left (ky key) ka (hint-o) with
    |true=>
     rw[aE rfl];exact be ⟨rfl,l,o,rfl,g1,g3,g4,λ_=>e⟩
    |false=>
     simp only[bz,du];exact be ⟨rfl,o,2*o+1,rfl,by lia,by lia,by lia,e⟩
end
section
variable {O:KeyOrd}{ky:bQ->O.α}
def UpA(ky:bQ->O.α)(a:Array bQ):Prop:=∀i j (hj:j<a.size) (h:i<=j),O.kle (ky (a[i]'(by lia))) (ky a[j])
structure MInv (ky:bQ->O.α) (a b out:Array bQ) (ia ib:Nat):Prop where
 la:ia<=a.size
 lb:ib<=b.size
 pm:out.toList.Perm (a.toList.take ia++b.toList.take ib)
 up:out.toList.Pairwise λx y=>O.kle (ky x) (ky y)
 ra:∀x∈out.toList,∀i (h:i<a.size),ia<=i->O.kle (ky x) (ky a[i])
 rb:∀x∈out.toList,∀i (h:i<b.size),ib<=i->O.kle (ky x) (ky b[i])
def take_snoc{α:Type}{l:List α}(h:i<l.length):l.take (i+1)=l.take i++[l[i]]:=(List.take_append_getElem h).symm
def MInv.stepA(M:MInv ky a b out ia ib)(ua:UpA ky a)(h:ia<a.size)(hb:∀j (hj:j<b.size),ib<=j->O.kle (ky a[ia]) (ky b[j])):MInv ky a b (out.push a[ia]) (ia+1) ib:=by
 refine⟨h,M.lb,?_,?_,λx hx i hi hh=>?_,λx hx j hj hh=>?_⟩
 ·rw[cm,take_snoc (by simpa using h),aV];refine (M.pm.append_right _).trans ?_;rw[aV];refine lP _ ?_;rw[bX];exact List.perm_append_comm
 ·rw[cm,dI];refine⟨M.up,dF _ _,λx hx y hy=>?_⟩;rw[ar.mp hy];exact M.ra x hx ia h (aA _)
 ·rw[cm]at hx;rcases av.mp hx with z|z
  ·exact M.ra x z i hi (by lia)
  ·rw[ar.mp z];exact ua ia i hi (by lia)
 ·rw[cm]at hx;rcases av.mp hx with z|z
  ·exact M.rb x z j hj hh
  ·rw[ar.mp z];exact hb j hj hh
def MInv.stepB(M:MInv ky a b out ia ib)(ub:UpA ky b)(h:ib<b.size)(ha:∀i (hi:i<a.size),ia<=i->O.kle (ky b[ib]) (ky a[i])):MInv ky a b (out.push b[ib]) ia (ib+1):=by
 refine⟨M.la,h,?_,?_,λx hx i hi hh=>?_,λx hx j hj hh=>?_⟩
 ·rw[cm,take_snoc (l:=b.toList) (by simpa using h),<-aV,bX];exact M.pm.append_right _
 ·rw[cm,dI];refine⟨M.up,dF _ _,λx hx y hy=>?_⟩;rw[ar.mp hy];exact M.rb x hx ib h (aA _)
 ·rw[cm]at hx;rcases av.mp hx with z|z
  ·exact M.ra x z i hi hh
  ·rw[ar.mp z];exact ha i hi hh
 ·rw[cm]at hx;rcases av.mp hx with z|z
  ·exact M.rb x z j hj (by lia)
  ·rw[ar.mp z];exact ub ib j hj (by lia)
def a1i{a out:Array bQ}(h:i+k<a.size):(out++a.extract i (i+k)).push (a[i+k]'h)=out++a.extract i (i+(k+1)):=by
 rw[pf,iq]
 congr 1;apply il;rw[mQ,gM,gM];simp only[jY];rw[show i+k-i=k by lia,show i+(k+1)-i=k+1 by lia,take_snoc (by rw[iV,aT];lia),Ct,bX]
theorem MInv.manyA(ua:UpA ky a):∀(k:Nat) {out:Array bQ},MInv ky a b out ia ib->ia+k<=a.size->(∀i (hi:i<a.size),ia<=i->i<ia+k->∀j (hj:j<b.size),ib<=j->O.kle (ky a[i]) (ky b[j]))->MInv ky a b (out++a.extract ia (ia+k)) (ia+k) ib
 |0,out,M,_,_=>by
  have e:a.extract ia (ia+0)=#[]:=by apply il;simp
  rw[e,ip];exact M
 |k+1,out,M,h,hb=>by
  have ih:=MInv.manyA ua k M (by lia) λi hi h1 h2=>hb i hi h1 (by lia)
  have:=ih.stepA ua (show ia+k<a.size by lia) λj hj h1=>hb (ia+k) (by lia) (by lia) (by lia) j hj h1
  rw[a1i (by lia)]at this;exact this
theorem MInv.manyB(ub:UpA ky b):∀(k:Nat) {out:Array bQ},MInv ky a b out ia ib->ib+k<=b.size->(∀j (hj:j<b.size),ib<=j->j<ib+k->∀i (hi:i<a.size),ia<=i->O.kle (ky b[j]) (ky a[i]))->MInv ky a b (out++b.extract ib (ib+k)) ia (ib+k)
 |0,out,M,_,_=>by
  have e:b.extract ib (ib+0)=#[]:=by apply il;simp
  rw[e,ip];exact M
 |k+1,out,M,h,hb=>by
  have ih:=MInv.manyB ub k M (by lia) λi hi h1 h2=>hb i hi h1 (by lia)
  have:=ih.stepB ub (show ib+k<b.size by lia) λj hj h1=>hb (ib+k) (by lia) (by lia) (by lia) j hj h1
  rw[a1i (by lia)]at this;exact this
def S8(ky:bQ->O.α)(a b out:Array bQ):Prop:=out.toList.Perm (a.toList++b.toList)/\out.toList.Pairwise λx y=>O.kle (ky x) (ky y)
def MInv.all(M:MInv ky a b out a.size b.size):S8 ky a b out:=by
 refine⟨?_,M.up⟩;have:=M.pm
 rwa[uG (by simp),uG (by simp)]at this
def MInv.doneB(M:MInv ky a b out ia b.size)(ua:UpA ky a):S8 ky a b (out++a.extract ia a.size++b.extract b.size b.size):=by
 have:=MInv.manyA ua (a.size-ia) M (by have:=M.la;lia) λi hi _ _ j hj h=>by lia
 rw[show ia+(a.size-ia)=a.size by have:=M.la;lia]at this;have e:b.extract b.size b.size=#[]:=by simp
 rw[e,ip];exact this.all
def MInv.doneA(M:MInv ky a b out a.size ib)(ub:UpA ky b):S8 ky a b (out++a.extract a.size a.size++b.extract ib b.size):=by
 have:=MInv.manyB ub (b.size-ib) M (by have:=M.lb;lia) λi hi _ _ j hj h=>by lia
 rw[show ib+(b.size-ib)=b.size by have:=M.lb;lia]at this;have e:a.extract a.size a.size=#[]:=by simp
 rw[e,ip];exact this.all
def MInv.last(M:MInv ky a b out ia ib)(ua:UpA ky a)(ub:UpA ky b)(h:ia+1=a.size)(hl:∀j (hj:j<b.size),O.kle (ky b[j]) (ky (a[ia]'(by lia)))):S8 ky a b (out++b.extract ib b.size++a.extract ia a.size):=by
 have M1:=MInv.manyB ub (b.size-ib) M (by have:=M.lb;lia) λj hj _ _ i hi h2=>by
  have:i=ia:=by lia
  subst this;exact hl j hj
 rw[show ib+(b.size-ib)=b.size by have:=M.lb;lia]at M1;have M2:=MInv.manyA ua 1 M1 (by lia) λi hi _ _ j hj h2=>by lia
 rw[h]at M2;exact M2.all
end
def b4l:Array bQ->Array bQ->StateT dg AD (Array bQ):=sortPriv% PySem.Builtin.mergeLo
def a4H:Nat->StateT dg AD Unit:=sortPriv% PySem.Builtin.setMinGallop
section
variable {prog:bu}{w:bV}{A:bP}{E:ak->au->Prop}{s:au}{κ:eY}{O:KeyOrd}{ky:bQ->O.α}{S:bQ->Prop}{st:dg}
def SameG(st cL:dg):Prop:=kindOf cL=kindOf st/\ba cL=ba st/\cC cL=cC st/\fN cL=fN st
def SameG.refl(st:dg):SameG st st:=⟨rfl,rfl,rfl,rfl⟩
theorem SameG.trans(x:SameG a b)(y:SameG b c):SameG a c:=⟨y.1.trans x.1,y.2.1.trans x.2.1,y.2.2.1.trans x.2.2.1,y.2.2.2.trans x.2.2.2⟩
def a1j(h:∀cL,SameG st cL->Q () cL):tw (aX prog w) A E s (a4H g) Q st:=by
 exact mw (h _ ⟨rfl,rfl,rfl,rfl⟩)
def S9(h:Q () st):tw (aX prog w) A E s (rule x) Q st:=wpS_lift (iJ ⟨rfl,h⟩)
def k9{β:Type}{c:Prop}{dc:Decidable c}{x y:StateT dg AD β}{Q:β->dg->Prop}(h:c->tw (aX prog w) A E s x Q st)(g:¬ c->tw (aX prog w) A E s y Q st):tw (aX prog w) A E s (ite c x y) Q st:=by
 by_cases d:c
 ·rw[aE d];exact h d
 ·rw[aM d];exact g d
def x8{i j:Nat}(h:¬ (i==j)=yn):i≠j:=λe=>h (by rw[e];exact FD j)
def T0{γ δ:Sort _}{β:Type}{R:γ->δ->Prop}{F:γ->δ->StateT dg AD β}{x:StateT dg AD β}{Q:β->dg->Prop}(tl:∀g d,R g d->tw (aX prog w) A E s (F g d) Q st)(mn:(∀g d,R g d->tw (aX prog w) A E s (F g d) Q st)->tw (aX prog w) A E s x Q st):tw (aX prog w) A E s x Q st:=mn tl
def a6s:(!O.blt k x)=yn↔O.kle x k:=by unfold KeyOrd.kle;cases O.blt k x<;>simp
def UpR(ky:bQ->O.α)(arr:Array bQ)(base n:Nat):Prop:=∀i j (hj:j<arr.size) (h:i<=j),base<=i->j<base+n->O.kle (ky (arr[i]'(by lia))) (ky arr[j])
def UpA.part(u:UpA ky arr)(base n:Nat):UpR ky arr base n:=λi j hj h _ _=>u i j hj h
def kyD(ky:bQ->O.α)(arr:Array bQ)(base:Nat)(d:O.α)(i:Nat):O.α:=(arr[base+i]?.map ky).getD d
def a0O{arr:Array bQ}(h:base+i<arr.size):kyD ky arr base d i=ky arr[base+i]:=by unfold kyD;rw[bC h];rfl
def part_of{arr:Array bQ}(hn:base+n<=arr.size)(qF:∀i (h:i<arr.size),base<=i->i<base+n->S arr[i])(d:O.α):b4k ky S arr base n (kyD ky arr base d):=λi hi=>⟨by lia,(a0O (by lia)).symm,qF _ _ (by lia) (by lia)⟩
def a3J(H:CmpS prog w A s κ O ky S)(hk:kindOf st=κ)(u:UpR ky arr base n)(qF:∀i (h:i<arr.size),base<=i->i<base+n->S arr[i])(hS:S key)(hn:base+n<=arr.size)(hh:hint<n) 
  (q:∀k,k<=n->(∀i (h:i<arr.size),base<=i->i<base+k->O.kle (ky arr[i]) (ky key))->(∀i (h:i<arr.size),base+k<=i->i<base+n->O.klt (ky key) (ky arr[i]))->Q (cz k) st):tw (aX prog w) A E s (a6r yH key arr base n hint) Q st:=by
 have at_:∀i (h:i<arr.size),base<=i->kyD ky arr base (ky key) (i-base)=ky arr[i]:=λi h hb=>by
  have e:base+(i-base)=i:=by lia
  rw[a0O (by lia)];simp only[e]
 refine a3I H hk (part_of hn qF (ky key)) hS hh (λi j gZ hj h=>?_) λk k1 k2 k3=>q k k1 (λi h hb hi=>?_) λi h hb hi=>?_
 ·have h':=a6s.mp h;refine a6s.mpr (df ?_ h');rw[a0O (show base+i<arr.size by lia),a0O (show base+j<arr.size by lia)];exact u (base+i) (base+j) (by lia) (by lia) (by lia) (by lia)
 ·have:=a6s.mp (k2 (i-base) (by lia))
  rwa[at_ i h hb]at this
 ·have:=k3 (i-base) (by lia) (by lia);have h2:(!O.blt (ky key) (kyD ky arr base (ky key) (i-base)))=yH:=this;rw[at_ i h (by lia)]at h2;show O.blt _ _=yn;simpa using h2
def a3K(H:CmpS prog w A s κ O ky S)(hk:kindOf st=κ)(u:UpR ky arr base n)(qF:∀i (h:i<arr.size),base<=i->i<base+n->S arr[i])(hS:S key)(hn:base+n<=arr.size)(hh:hint<n) 
  (q:∀k,k<=n->(∀i (h:i<arr.size),base<=i->i<base+k->O.klt (ky arr[i]) (ky key))->(∀i (h:i<arr.size),base+k<=i->i<base+n->O.kle (ky key) (ky arr[i]))->Q (cz k) st):tw (aX prog w) A E s (a6r yn key arr base n hint) Q st:=by
 have at_:∀i (h:i<arr.size),base<=i->kyD ky arr base (ky key) (i-base)=ky arr[i]:=λi h hb=>by
  have e:base+(i-base)=i:=by lia
  rw[a0O (by lia)];simp only[e]
 refine a3I H hk (part_of hn qF (ky key)) hS hh (λi j gZ hj h=>?_) λk k1 k2 k3=>q k k1 (λi h hb hi=>?_) λi h hb hi=>?_
 ·have h':O.klt _ _:=h;refine (KeyOrd.klt_of_kle_of_klt ?_ h':O.klt _ _);rw[a0O (show base+i<arr.size by lia),a0O (show base+j<arr.size by lia)];exact u (base+i) (base+j) (by lia) (by lia) (by lia) (by lia)
 ·have:O.blt _ _=yn:=k2 (i-base) (by lia);rw[at_ i h hb]at this;exact this
 ·have:O.blt _ _=yH:=k3 (i-base) (by lia) (by lia);rw[at_ i h (by lia)]at this;exact this
def a7z(H:CmpS prog w A s κ O ky S)(hk:kindOf st=κ)(ua:UpA ky a)(ub:UpA ky b)(sa:∀i (h:i<a.size),S a[i])(sb:∀i (h:i<b.size),S b[i])(a0:0<a.size)(b0:0<b.size)(hf:O.klt (ky b[0]) (ky a[0]))(hl:∀j (hj:j<b.size),O.klt (ky b[j]) (ky (a[a.size-1]'(by lia))))
  (q:∀out cL,SameG st cL->S8 ky a b out->Q out cL):tw (aX prog w) A E s (b4l a b) Q st:=by
 have M0:MInv ky a b #[b[0]] 0 1:=by
  have M:MInv ky a b #[] 0 0:=⟨cG _,cG _,by simp,by simp,λx hx=>by simp at hx,λx hx=>by simp at hx⟩;have:=M.stepB ub b0 λi hi _=>cM (fx hf (ua 0 i hi (by lia)))
  simpa using this
 have nk:∀{out:Array bQ} {ia ib:Nat},MInv ky a b out ia ib->ia+1=a.size->S8 ky a b (out++b.extract ib b.size++a.extract ia a.size):=λ{out ia ib} M h=>M.last ua ub h λj hj=>by
  have:=hl j hj;have e:a.size-1=ia:=by lia
  simp only[e]at this;exact cM this
 refine aU (S9 ?_);refine aU (m4 b0 ?_);refine k9 (λc1=>?_) λc1=>?_
 ·have e:1=b.size:=eq_of_beq c1;refine be (q _ _ (SameG.refl _) ?_);have:=M0;rw[e]at this ⊢;exact this.doneB ua
 have FA:1≠b.size:=x8 c1;refine k9 (λc2=>be (q _ _ (SameG.refl _) (nk M0 (eq_of_beq c2)))) λc2=>?_
 have Fz:0+1≠a.size:=x8 c2;refine aU (nc ?_);refine aU (fM (dE (I:=λx c cL=>SameG st cL/\∃out ia ib mg,c=(xn,out,ia,ib,mg)/\MInv ky a b out ia ib/\ia+1<a.size/\ib<b.size/\x+1<=ia+ib)
  (Q:=λc cL=>SameG st cL/\∃r z,c=(cz r,z)/\S8 ky a b r) ?ostep ?ofin ⟨SameG.refl _,#[b[0]],0,1,_,rfl,M0,by lia,by lia,by lia⟩) ?opost)
 case opost=>
  rintro c cL ⟨hs,r,z,rfl,hm⟩;exact be (q r cL hs hm)
 case ofin=>
  rintro c cL ⟨hs,out,ia,ib,mg,rfl,M,h1,h2,h3⟩;lia
 case ostep=>
  rintro x c cL _ hx ⟨hs,out,ia,ib,mg,rfl,M,h1,h2,h3⟩;refine aU (fM (dE (I:=λx' c fy=>SameG st fy/\∃jh lR lZ ac bc,c=(xn,jh,lR,lZ,ac,bc)/\MInv ky a b jh lR lZ/\lR+1<a.size/\lZ<b.size/\lR+lZ=ia+ib+x')
   (Q:=λc fy=>SameG st fy/\((∃r z,c=(cz r,z)/\S8 ky a b r)\/∃jh lR lZ ac bc,c=(xn,jh,lR,lZ,ac,bc)/\MInv ky a b jh lR lZ/\lR+1<a.size/\lZ<b.size/\ia+ib+1<=lR+lZ)) ?istep ?ifin ⟨hs,out,ia,ib,_,_,rfl,M,h1,h2,by lia⟩) ?ipost)
  case ifin=>
   rintro c fy ⟨iZ,jh,lR,lZ,ac,bc,rfl,M',g1,g2,g3⟩;exact⟨iZ,.inr ⟨_,_,_,_,_,rfl,M',g1,g2,by lia⟩⟩
  case istep=>
   rintro x' c fy _ vN ⟨iZ,jh,lR,lZ,ac,bc,rfl,M',g1,g2,g3⟩;have xV:lR<a.size:=by lia
   refine aU (m4 g2 (aU (m4 xV ?_)));refine aU (a3H H (iZ.1.trans hk) (sb _ g2) (sa _ xV) (k9 (λc=>?_) λc=>?_))
   ·refine aU (m4 g2 (k9 (λd=>?_) λd=>?_))
    ·have M2:=M'.stepB ub g2 λi hi h=>cM (fx c (ua lR i hi h))
     have e:lZ+1=b.size:=eq_of_beq d;refine be ⟨iZ,.inl ⟨_,_,rfl,?_⟩⟩;rw[e]at M2 ⊢;exact M2.doneB ua
    ·have M2:=M'.stepB ub g2 λi hi h=>cM (fx c (ua lR i hi h))
     have e:lZ+1≠b.size:=x8 d;exact k9 (λ_=>be ⟨iZ,.inr ⟨_,lR,lZ+1,_,_,rfl,M2,g1,by lia,by lia⟩⟩) λ_=>be ⟨iZ,_,lR,lZ+1,_,_,rfl,M2,g1,by lia,by lia⟩
   ·have c:=eU.mpr c;have M2:=M'.stepA ua xV λj hj h=>df (show O.kle (ky a[lR]) (ky b[lZ]) from c) (ub lZ j hj h)
    refine aU (m4 xV (k9 (λd=>be ⟨iZ,.inl ⟨_,_,rfl,nk M2 (eq_of_beq d)⟩⟩) λd=>?_));have e:lR+1+1≠a.size:=x8 d;exact k9 (λ_=>be ⟨iZ,.inr ⟨_,lR+1,lZ,_,_,rfl,M2,by lia,g2,by lia⟩⟩) λ_=>be ⟨iZ,_,lR+1,lZ,_,_,rfl,M2,by lia,g2,by lia⟩
  case ipost=>
   rintro c fy ⟨iZ,⟨r,z,rfl,hm⟩|⟨jh,lR,lZ,ac,bc,rfl,M',g1,g2,g3⟩⟩
   ·exact be ⟨iZ,r,_,rfl,hm⟩
   refine aU (S9 ?_);refine aU (fM (dE (I:=λ_ c jx=>SameG st jx/\∃o2 i2 j2 mg ac bc,c=(xn,o2,i2,j2,mg,ac,bc)/\MInv ky a b o2 i2 j2/\i2+1<a.size/\j2<b.size/\lR+lZ<=i2+j2)
    (Q:=λc jx=>SameG st jx/\((∃r z,c=(cz r,z)/\S8 ky a b r)\/∃o2 i2 j2 mg ac bc,c=(xn,o2,i2,j2,mg,ac,bc)/\MInv ky a b o2 i2 j2/\i2+1<a.size/\j2<b.size/\lR+lZ<=i2+j2)) ?gstep ?gfin ⟨iZ,jh,lR,lZ,_,_,_,rfl,M',g1,g2,aA _⟩) ?gpost)
   case gfin=>
    rintro c jx ⟨nT,x⟩;exact⟨nT,.inr x⟩
   case gpost=>
    rintro c jx ⟨nT,⟨r,z,rfl,hm⟩|⟨o2,i2,j2,tF,AB,Az,rfl,M2,k1,k2,k3⟩⟩
    ·exact be ⟨nT,r,_,rfl,hm⟩
    refine aU (a1j λkO tP=>be ?_);exact⟨nT.trans tP,o2,i2,j2,_,rfl,M2,k1,k2,by lia⟩
   case gstep=>
    rintro y c jx _ hy ⟨nT,o2,i2,j2,tF,AB,Az,rfl,M2,k1,k2,k3⟩
    dsimp only
    refine' T0 (γ:=Nat) (δ:=True) (R:=λ_ _=>True) (λmg tt _=>?tl0) λtl=>?mn0
    case mn0=>
     have u:=trivial;refine k9 (λ_=>?_) λ_=>?_
     ·generalize tF-1=g;exact tl g u u
     ·exact tl tF u u
    refine aU (a1j λkO tP=>?_);have nr:=nT.trans tP;refine aU (m4 k2 ?_);refine aU (a3J H (nr.1.trans hk) (ua.part _ _) (λi h _ _=>sa i h) (sb _ k2) (by lia) (by lia) λk q1 q2 q3=>?_);refine' T0 (R:=λi3 o3=>MInv ky a b o3 i3 j2/\i3=i2+k/\i3+1<a.size) (λi3 o3 h3=>?tl1) λtl=>?mn1
    case mn1=>
     refine k9 (λzG=>?_) λzG=>?_
     ·have M3:=MInv.manyA ua k M2 (by lia) λi hi h1 h2 j hj h3=>df (q2 i hi h1 h2) (ub j2 j hj h3)
      refine k9 (λd=>be ⟨nr,.inl ⟨_,_,rfl,nk M3 (eq_of_beq d)⟩⟩) λd=>k9 (λd2=>?_) λd2=>?_
      ·have e2:i2+k=a.size:=eq_of_beq d2;refine be ⟨nr,.inl ⟨_,_,rfl,?_⟩⟩;have Cq:=M3;rw[e2]at Cq ⊢;exact Cq.doneA ub
      have e1:=x8 d;have e2:=x8 d2;generalize o2++a.extract i2 (i2+k)=o3 at M3 ⊢;obtain⟨i3,ei⟩:∃i3,i3=i2+k:=⟨_,rfl⟩;rw[<-ei]at M3 ⊢;exact tl i3 o3 ⟨M3,ei,by lia⟩
     ·exact tl i2 o2 ⟨M2,by lia,k1⟩
    obtain⟨M3,ei,qQ⟩:=h3;have qQ:i3<a.size:=by lia
    refine aU (m4 k2 ?_);have M4:=M3.stepB ub k2 λi hi h=>cM (q3 i hi (by lia) (by lia))
    refine k9 (λd3=>?_) λd3=>?_
    ·have e3:j2+1=b.size:=eq_of_beq d3;refine be ⟨nr,.inl ⟨_,_,rfl,?_⟩⟩;rw[e3]at M4 ⊢;exact M4.doneB ua
    have e3:=x8 d3;refine aU (m4 qQ ?_);refine aU (a3K H (nr.1.trans hk) (ub.part _ _) (λi h _ _=>sb i h) (sa _ qQ) (by lia) (by lia) λk' r1 r2 r3=>?_);refine' T0 (R:=λj3 o3=>MInv ky a b o3 i3 j3/\j3=j2+1+k'/\j3<b.size) (λj3 o3 h3=>?tl2) λtl=>?mn2
    case mn2=>
     refine k9 (λrL=>?_) λrL=>?_
     ·have M5:=MInv.manyB ub k' M4 (by lia) λj hj h1 h2 i hi h3=>cM (fx (r2 j hj h1 h2) (ua i3 i hi h3))
      refine k9 (λd4=>?_) λd4=>?_
      ·have e4:j2+1+k'=b.size:=eq_of_beq d4;refine be ⟨nr,.inl ⟨_,_,rfl,?_⟩⟩;rw[e4]at M5 ⊢;exact M5.doneB ua
      have e4:=x8 d4;generalize o3.push b[j2]++b.extract (j2+1) (j2+1+k')=o4 at M5 ⊢;obtain⟨j3,ej⟩:∃j3,j3=j2+1+k':=⟨_,rfl⟩;rw[<-ej]at M5 ⊢;exact tl j3 o4 ⟨M5,ej,by lia⟩
     ·generalize o3.push b[j2]=o4 at M4 ⊢;obtain⟨j3,ej⟩:∃j3,j3=j2+1:=⟨_,rfl⟩;rw[<-ej]at M4 ⊢;exact tl j3 o4 ⟨M4,by lia,by lia⟩
    obtain⟨M5,ej,Gu⟩:=h3;have M6:=M5.stepA ua qQ λj hj h=>r3 j hj (by lia) (by lia)
    refine aU (m4 qQ (k9 (λd=>be ⟨nr,.inl ⟨_,_,rfl,nk M6 (eq_of_beq d)⟩⟩) λd=>?_));have e5:=x8 d;exact k9 (λ_=>be ⟨nr,.inr ⟨_,_,_,_,_,_,rfl,M6,by lia,by lia,by lia⟩⟩) λ_=>be ⟨nr,_,_,_,_,_,_,rfl,M6,by lia,by lia,by lia⟩
end
section
variable {O:KeyOrd}{ky:bQ->O.α}
structure NInv (ky:bQ->O.α) (a b out:Array bQ) (na nb:Nat):Prop where
 la:na<=a.size
 lb:nb<=b.size
 pm:out.toList.Perm (a.toList.drop na++b.toList.drop nb)
 up:out.toList.Pairwise λx y=>O.kle (ky y) (ky x)
 ra:∀x∈out.toList,∀i (h:i<a.size),i<na->O.kle (ky a[i]) (ky x)
 rb:∀x∈out.toList,∀i (h:i<b.size),i<nb->O.kle (ky b[i]) (ky x)
def a1N{α:Type}{l:List α}(h:i<l.length):l.drop i=l[i]::l.drop (i+1):=dP h
def NInv.stepA(M:NInv ky a b out (na+1) nb)(ua:UpA ky a)(h:na<a.size)(hb:∀j (hj:j<b.size),j<nb->O.kle (ky b[j]) (ky a[na])):NInv ky a b (out.push a[na]) na nb:=by
 refine⟨by lia,M.lb,?_,?_,λx hx i hi hh=>?_,λx hx j hj hh=>?_⟩
 ·rw[cm,a1N (l:=a.toList) (by simpa using h),bX,bG];exact (qZ _ _).trans (M.pm.cons _)
 ·rw[cm,dI];refine⟨M.up,dF _ _,λx hx y hy=>?_⟩;rw[ar.mp hy];exact M.ra x hx na h (by lia)
 ·rw[cm]at hx;rcases av.mp hx with z|z
  ·exact M.ra x z i hi (by lia)
  ·rw[ar.mp z];exact ua i na h (by lia)
 ·rw[cm]at hx;rcases av.mp hx with z|z
  ·exact M.rb x z j hj hh
  ·rw[ar.mp z];exact hb j hj hh
def NInv.stepB(M:NInv ky a b out na (nb+1))(ub:UpA ky b)(h:nb<b.size)(ha:∀i (hi:i<a.size),i<na->O.kle (ky a[i]) (ky b[nb])):NInv ky a b (out.push b[nb]) na nb:=by
 refine⟨M.la,by lia,?_,?_,λx hx i hi hh=>?_,λx hx j hj hh=>?_⟩
 ·rw[cm,a1N (l:=b.toList) (by simpa using h),bX];refine (qZ _ _).trans ((M.pm.cons _).trans ?_);exact List.perm_middle.symm
 ·rw[cm,dI];refine⟨M.up,dF _ _,λx hx y hy=>?_⟩;rw[ar.mp hy];exact M.rb x hx nb h (by lia)
 ·rw[cm]at hx;rcases av.mp hx with z|z
  ·exact M.ra x z i hi hh
  ·rw[ar.mp z];exact ha i hi hh
 ·rw[cm]at hx;rcases av.mp hx with z|z
  ·exact M.rb x z j hj (by lia)
  ·rw[ar.mp z];exact ub j nb h (by lia)
def a7A{a out:Array bQ}(h:i<a.size)(hn:i<n)(Gn:n<=a.size):(out++(a.extract (i+1) n).reverse).push a[i]=out++(a.extract i n).reverse:=by
 rw[pf,iq]
 congr 1;apply il;simp only[mQ,mv,gM,jY];rw[show n-i=(n-(i+1))+1 by lia,a1N (l:=a.toList) (i:=i) (by simpa using h),List.take_succ_cons,kh,bX]
theorem NInv.manyA(ua:UpA ky a):∀(k:Nat) {out:Array bQ},NInv ky a b out na nb->k<=na->(∀i (hi:i<a.size),na-k<=i->i<na->∀j (hj:j<b.size),j<nb->O.kle (ky b[j]) (ky a[i]))->NInv ky a b (out++(a.extract (na-k) na).reverse) (na-k) nb
 |0,out,M,_,_=>by
  have e:a.extract (na-0) na=#[]:=by apply il;simp
  rw[e];simpa using M
 |k+1,out,M,h,hb=>by
  have ih:=NInv.manyA ua k M (by lia) λi hi h1 h2=>hb i hi (by lia) h2
  have BC:=M.la;rw[show na-k=(na-(k+1))+1 by lia]at ih;have:=ih.stepA ua (show na-(k+1)<a.size by lia) λj hj h1=>hb (na-(k+1)) (by lia) (aA _) (by lia) j hj h1
  rw[a7A (by lia) (by lia) BC]at this;exact this
theorem NInv.manyB(ub:UpA ky b):∀(k:Nat) {out:Array bQ},NInv ky a b out na nb->k<=nb->(∀j (hj:j<b.size),nb-k<=j->j<nb->∀i (hi:i<a.size),i<na->O.kle (ky a[i]) (ky b[j]))->NInv ky a b (out++(b.extract (nb-k) nb).reverse) na (nb-k)
 |0,out,M,_,_=>by
  have e:b.extract (nb-0) nb=#[]:=by apply il;simp
  rw[e];simpa using M
 |k+1,out,M,h,hb=>by
  have ih:=NInv.manyB ub k M (by lia) λi hi h1 h2=>hb i hi (by lia) h2
  have BB:=M.lb;rw[show nb-k=(nb-(k+1))+1 by lia]at ih;have:=ih.stepB ub (show nb-(k+1)<b.size by lia) λj hj h1=>hb (nb-(k+1)) (by lia) (aA _) (by lia) j hj h1
  rw[a7A (by lia) (by lia) BB]at this;exact this
def NInv.all(M:NInv ky a b out 0 0):S8 ky a b out.reverse:=by
 refine⟨?_,?_⟩
 ·rw[mv];refine (List.reverse_perm _).trans ?_;simpa using M.pm
 ·rw[mv,vn];exact M.up
def a2R{out c:Array bQ}:(out++c.reverse).reverse=c++out.reverse:=by apply il;simp
def NInv.doneA(M:NInv ky a b out 0 nb)(ub:UpA ky b):S8 ky a b (a.extract 0 0++b.extract 0 nb++out.reverse):=by
 have:=(NInv.manyB ub nb M (aA _) λj hj _ _ i hi h=>by lia);rw[lg]at this;have e:a.extract 0 0=#[]:=by apply il;simp
 have:=this.all;rw[a2R]at this;rw[e,Array.empty_append];exact this
def NInv.doneB(M:NInv ky a b out na 0)(ua:UpA ky a):S8 ky a b (a.extract 0 na++b.extract 0 0++out.reverse):=by
 have:=(NInv.manyA ua na M (aA _) λj hj _ _ i hi h=>by lia);rw[lg]at this;have e:b.extract 0 0=#[]:=by apply il;simp
 have:=this.all;rw[a2R]at this;rw[e,ip];exact this
def NInv.first(M:NInv ky a b out na 1)(ua:UpA ky a)(ub:UpA ky b)(b0:0<b.size)(hf:∀i (hi:i<a.size),O.kle (ky b[0]) (ky a[i])):S8 ky a b (b.extract 0 1++a.extract 0 na++out.reverse):=by
 have M1:=NInv.manyA ua na M (aA _) λi hi _ _ j hj h=>by
  have:j=0:=by lia
  subst this;exact hf i hi
 rw[lg]at M1;have M2:=(NInv.manyB ub 1 M1 (aA _) λj hj _ _ i hi h=>by lia);rw[lg]at M2;have:=M2.all;rw[a2R,a2R,<-iq]at this;exact this
end
def b4m:Array bQ->Array bQ->StateT dg AD (Array bQ):=sortPriv% PySem.Builtin.mergeHi
section
variable {prog:bu}{w:bV}{A:bP}{E:ak->au->Prop}{s:au}{κ:eY}{O:KeyOrd}{ky:bQ->O.α}{S:bQ->Prop}{st:dg}
def a7B(H:CmpS prog w A s κ O ky S)(hk:kindOf st=κ)(ua:UpA ky a)(ub:UpA ky b)(sa:∀i (h:i<a.size),S a[i])(sb:∀i (h:i<b.size),S b[i])(a0:0<a.size)(b0:0<b.size)(hf:O.klt (ky b[0]) (ky a[0]))(hl:∀j (hj:j<b.size),O.klt (ky b[j]) (ky (a[a.size-1]'(by lia))))
  (q:∀out cL,SameG st cL->S8 ky a b out->Q out cL):tw (aX prog w) A E s (b4m a b) Q st:=by
 have M0:NInv ky a b #[a[a.size-1]'(by lia)] (a.size-1) b.size:=by
  have M:NInv ky a b #[] (a.size-1+1) b.size:=⟨by lia,aA _,by simp;lia,by simp,λx hx=>by simp at hx,λx hx=>by simp at hx⟩;have:=M.stepA ua (show a.size-1<a.size by lia) λj hj _=>cM (hl j hj)
  simpa using this
 have mU:∀i (hi:i<a.size),O.kle (ky b[0]) (ky a[i]):=λi hi=>cM (fx hf (ua 0 i hi (by lia)))
 have lV:∀{out:Array bQ} {na nb:Nat},NInv ky a b out na nb->nb=1->S8 ky a b (b.extract 0 nb++a.extract 0 na++out.reverse):=λ{out na nb} M h=>by subst h;exact M.first ua ub b0 mU
 have nv:∀{out:Array bQ} {na nb:Nat},NInv ky a b out na nb->na=0->S8 ky a b (a.extract 0 na++b.extract 0 nb++out.reverse):=λ{out na nb} M h=>by subst h;exact M.doneA ub
 refine aU (S9 ?_);refine aU (m4 (show a.size-1<a.size by lia) ?_);refine k9 (λc1=>be (q _ _ (SameG.refl _) (nv M0 (eq_of_beq c1)))) λc1=>k9 (λc2=>be (q _ _ (SameG.refl _) (lV M0 (eq_of_beq c2)))) λc2=>?_
 have FA:a.size-1≠0:=x8 c1;have Fz:b.size≠1:=x8 c2;refine aU (nc ?_);refine aU (fM (dE (I:=λx c cL=>SameG st cL/\∃na nb out mg,c=(xn,na,nb,out,mg)/\NInv ky a b out na nb/\0<na/\1<nb/\na+nb+x+1<=a.size+b.size)
  (Q:=λc cL=>SameG st cL/\∃r z,c=(cz r,z)/\S8 ky a b r) ?ostep ?ofin ⟨SameG.refl _,a.size-1,b.size,_,_,rfl,M0,by lia,by lia,by lia⟩) ?opost)
 case opost=>
  rintro c cL ⟨hs,r,z,rfl,hm⟩;exact be (q r cL hs hm)
 case ofin=>
  rintro c cL ⟨hs,na,nb,out,mg,rfl,M,h1,h2,h3⟩;lia
 case ostep=>
  rintro x c cL _ hx ⟨hs,na,nb,out,mg,rfl,M,h1,h2,h3⟩;have BC:=M.la;have BB:=M.lb;refine aU (fM (dE (I:=λx' c fy=>SameG st fy/\∃lr ll jh ac bc,c=(xn,lr,ll,jh,ac,bc)/\NInv ky a b jh lr ll/\0<lr/\1<ll/\lr+ll+x'=na+nb)
   (Q:=λc fy=>SameG st fy/\((∃r z,c=(cz r,z)/\S8 ky a b r)\/∃lr ll jh ac bc,c=(xn,lr,ll,jh,ac,bc)/\NInv ky a b jh lr ll/\0<lr/\1<ll/\lr+ll+1<=na+nb)) ?istep ?ifin ⟨hs,na,nb,out,_,_,rfl,M,h1,h2,by lia⟩) ?ipost)
  case ifin=>
   rintro c fy ⟨iZ,lr,ll,jh,ac,bc,rfl,M',g1,g2,g3⟩;exact⟨iZ,.inr ⟨_,_,_,_,_,rfl,M',g1,g2,by lia⟩⟩
  case istep=>
   rintro x' c fy _ vN ⟨iZ,lr,ll,jh,ac,bc,rfl,M',g1,g2,g3⟩;have ja:lr-1<a.size:=by have:=M'.la;lia
   have jb:ll-1<b.size:=by have:=M'.lb;lia
   refine aU (m4 jb (aU (m4 ja ?_)));refine aU (a3H H (iZ.1.trans hk) (sb _ jb) (sa _ ja) (k9 (λc=>?_) λc=>?_))
   ·have M2:=NInv.stepA (na:=lr-1) (by rw[show lr-1+1=lr by lia];exact M') ua ja λj hj h=>cM (KeyOrd.klt_of_kle_of_klt (ub j (ll-1) jb (by lia)) c)
    refine aU (m4 ja (k9 (λd=>be ⟨iZ,.inl ⟨_,_,rfl,nv M2 (eq_of_beq d)⟩⟩) λd=>?_));have e:lr-1≠0:=x8 d;exact k9 (λ_=>be ⟨iZ,.inr ⟨lr-1,ll,_,_,_,rfl,M2,by lia,g2,by lia⟩⟩) λ_=>be ⟨iZ,lr-1,ll,_,_,_,rfl,M2,by lia,g2,by lia⟩
   ·have c:=eU.mpr c;have M2:=NInv.stepB (nb:=ll-1) (by rw[show ll-1+1=ll by lia];exact M') ub jb λi hi h=>df (ua i (lr-1) ja (by lia)) (show O.kle (ky a[lr-1]) (ky b[ll-1]) from c)
    refine aU (m4 jb (k9 (λd=>be ⟨iZ,.inl ⟨_,_,rfl,lV M2 (eq_of_beq d)⟩⟩) λd=>?_));have e:ll-1≠1:=x8 d;exact k9 (λ_=>be ⟨iZ,.inr ⟨lr,ll-1,_,_,_,rfl,M2,g1,by lia,by lia⟩⟩) λ_=>be ⟨iZ,lr,ll-1,_,_,_,rfl,M2,g1,by lia,by lia⟩
  case ipost=>
   rintro c fy ⟨iZ,⟨r,z,rfl,hm⟩|⟨lr,ll,jh,ac,bc,rfl,M',g1,g2,g3⟩⟩
   ·exact be ⟨iZ,r,_,rfl,hm⟩
   refine aU (S9 ?_);refine aU (fM (dE (I:=λ_ c jx=>SameG st jx/\∃i2 j2 o2 mg ac bc,c=(xn,i2,j2,o2,mg,ac,bc)/\NInv ky a b o2 i2 j2/\0<i2/\1<j2/\i2+j2<=lr+ll)
    (Q:=λc jx=>SameG st jx/\((∃r z,c=(cz r,z)/\S8 ky a b r)\/∃i2 j2 o2 mg ac bc,c=(xn,i2,j2,o2,mg,ac,bc)/\NInv ky a b o2 i2 j2/\0<i2/\1<j2/\i2+j2<=lr+ll)) ?gstep ?gfin ⟨iZ,lr,ll,jh,_,_,_,rfl,M',g1,g2,aA _⟩) ?gpost)
   case gfin=>
    rintro c jx ⟨nT,x⟩;exact⟨nT,.inr x⟩
   case gpost=>
    rintro c jx ⟨nT,⟨r,z,rfl,hm⟩|⟨i2,j2,o2,tF,AB,Az,rfl,M2,k1,k2,k3⟩⟩
    ·exact be ⟨nT,r,_,rfl,hm⟩
    refine aU (a1j λkO tP=>be ?_);exact⟨nT.trans tP,i2,j2,o2,_,rfl,M2,k1,k2,by lia⟩
   case gstep=>
    rintro y c jx _ hy ⟨nT,i2,j2,o2,tF,AB,Az,rfl,M2,k1,k2,k3⟩;have ja:=M2.la;have jb:=M2.lb;have vH:j2-1<b.size:=by lia
    dsimp only
    refine' T0 (γ:=Nat) (δ:=True) (R:=λ_ _=>True) (λmg tt _=>?tl0) λtl=>?mn0
    case mn0=>
     have u:=trivial;refine k9 (λ_=>?_) λ_=>?_
     ·generalize tF-1=g;exact tl g u u
     ·exact tl tF u u
    refine aU (a1j λkO tP=>?_);have nr:=nT.trans tP;refine aU (m4 vH ?_);refine aU (a3J H (nr.1.trans hk) (ua.part _ _) (λi h _ _=>sa i h) (sb _ vH) (by lia) (by lia) λk q1 q2 q3=>?_)
    dsimp only
    generalize me:i2-k=ac;refine' T0 (R:=λi3 o3=>NInv ky a b o3 i3 j2/\i3=k/\0<i3) (λi3 o3 h3=>?tl1) λtl=>?mn1
    case mn1=>
     refine k9 (λzG=>?_) λzG=>?_
     ·have M3:=NInv.manyA ua (i2-k) M2 (by lia) λi hi h1 h2 j hj h3=>df (ub j (j2-1) vH (by lia)) (cM (q3 i hi (by lia) (by lia)))
      rw[show i2-(i2-k)=k by lia]at M3;refine k9 (λd=>be ⟨nr,.inl ⟨_,_,rfl,nv M3 (eq_of_beq d)⟩⟩) λd=>?_
      have e1:=x8 d;generalize o2++(a.extract k i2).reverse=o3 at M3 ⊢;obtain⟨i3,ei⟩:∃i3,i3=k:=⟨_,rfl⟩;rw[<-ei]at M3 ⊢;exact tl i3 o3 ⟨M3,ei,by lia⟩
     ·exact tl i2 o2 ⟨M2,by lia,k1⟩
    obtain⟨M3,ei,h0⟩:=h3;have M4:=NInv.stepB (nb:=j2-1) (by rw[show j2-1+1=j2 by lia];exact M3) ub vH λi hi h=>q2 i hi (by lia) (by lia)
    refine aU (m4 vH (k9 (λd=>be ⟨nr,.inl ⟨_,_,rfl,lV M4 (eq_of_beq d)⟩⟩) λd3=>?_));have e3:=x8 d3;have qQ:i3-1<a.size:=by lia
    refine aU (m4 qQ ?_);refine aU (a3K H (nr.1.trans hk) (ub.part _ _) (λi h _ _=>sb i h) (sa _ qQ) (by lia) (by lia) λk' r1 r2 r3=>?_)
    dsimp only
    generalize Gv:j2-1-k'=bc;refine' T0 (R:=λj3 o4=>NInv ky a b o4 i3 j3/\j3=k'/\1<j3) (λj3 o4 h3=>?tl2) λtl=>?mn2
    case mn2=>
     refine k9 (λrL=>?_) λrL=>?_
     ·have M5:=NInv.manyB ub (j2-1-k') M4 (by lia) λj hj h1 h2 i hi h3=>df (ua i (i3-1) qQ (by lia)) (r3 j hj (by lia) (by lia))
      rw[show j2-1-(j2-1-k')=k' by lia]at M5;refine k9 (λd=>be ⟨nr,.inl ⟨_,_,rfl,lV M5 (eq_of_beq d)⟩⟩) λd4=>k9 (λd6=>?_) λd6=>?_
      ·have e6:k'=0:=eq_of_beq d6;refine be ⟨nr,.inl ⟨_,_,rfl,?_⟩⟩;have Cp:=M5;rw[e6]at Cp ⊢;exact Cp.doneB ua
      have e4:=x8 d4;have e6:=x8 d6;generalize o3.push b[j2-1]++(b.extract k' (j2-1)).reverse=o4 at M5 ⊢;obtain⟨j3,ej⟩:∃j3,j3=k':=⟨_,rfl⟩;rw[<-ej]at M5 ⊢;exact tl j3 o4 ⟨M5,ej,by lia⟩
     ·generalize o3.push b[j2-1]=o4 at M4 ⊢;exact tl (j2-1) o4 ⟨M4,by lia,by lia⟩
    obtain⟨M5,ej,h1⟩:=h3;have M6:=NInv.stepA (na:=i3-1) (by rw[show i3-1+1=i3 by lia];exact M5) ua qQ λj hj h=>cM (r2 j hj (by lia) (by lia))
    refine aU (m4 qQ (k9 (λd=>be ⟨nr,.inl ⟨_,_,rfl,nv M6 (eq_of_beq d)⟩⟩) λd=>?_));have e5:=x8 d;exact k9 (λ_=>be ⟨nr,.inr ⟨_,_,_,_,_,_,rfl,M6,by lia,by lia,by lia⟩⟩) λ_=>be ⟨nr,_,_,_,_,_,_,rfl,M6,by lia,by lia,by lia⟩
end
theorem b0h{α:Type}(p0:Nat):∀(l:List α) (n:Nat) (arr:Array α),p0+n+l.length<=arr.size->((l.zipIdx n).foldl (λa (q:α×Nat)=>a.setIfInBounds (p0+q.2) q.1) arr).toList=arr.toList.take (p0+n)++l++arr.toList.drop (p0+n+l.length)
 |[],n,arr,h=>by simp
 |x::l,n,arr,h=>by
  rw[aY]at h;rw[List.zipIdx_cons,GV,b0h p0 l (n+1) _ (by rw[Array.size_setIfInBounds];lia),Array.toList_setIfInBounds];have hl:p0+n<arr.toList.length:=by rw[aT];lia
  have e1:(arr.toList.set (p0+n) x).take (p0+(n+1))=arr.toList.take (p0+n)++[x]:=by
   rw[show p0+(n+1)=(p0+n)+1 by lia,take_snoc (by rw[GU];exact hl),List.take_set_of_le (aA _),List.getElem_set_self]
  have e2:(arr.toList.set (p0+n) x).drop (p0+(n+1)+l.length)=arr.toList.drop (p0+n+(x::l).length):=by
   rw[List.drop_set_of_lt (by lia),aY]
   congr 1;lia
  rw[e1,e2];simp
section
variable {prog:bu}{w:bV}{A:bP}{E:ak->au->Prop}{s:au}{κ:eY}{O:KeyOrd}{ky:bQ->O.α}{S:bQ->Prop}{st:dg}
def b7f(h:Q ⟨⟩ cL):tw (aX prog w) A E s (set cL:StateT dg AD PUnit) Q st:=by
 unfold tw;rw[StateT.run_set];exact aC ⟨rfl,h⟩
def a2r{arr:Array bQ}{base n:Nat}(u:UpR ky arr base n)(hn:base+n<=arr.size){lo hi:Nat}(h1:base<=lo)(h2:lo<=hi)(h3:hi<=base+n):UpA ky (arr.extract lo hi):=by
 intro i j hj h;rw[nK]at hj;rw[dR,dR];exact u (lo+i) (lo+j) (by lia) (by lia) (by lia) (by lia)
structure Fused (ky:bQ->O.α) (arr mH:Array bQ) (lo hi:Nat):Prop where
 pm:mH.toList.Perm arr.toList
 out:∀t,t<lo\/hi<=t->mH[t]?=arr[t]?
 up:UpR ky mH lo (hi-lo)
def a7C(H:CmpS prog w A s κ O ky S)(hk:kindOf st=κ){i sa na pw sb nb yC:Nat}(p1:(cC st)[i]?=cz (sa,na,pw))(p2:(cC st)[i+1]?=cz (sb,nb,yC))(za:sb=sa+na)(xH:0<na)(yI:0<nb)(jI:sb+nb<=(ba st).size)(sS:∀i (h:i<(ba st).size),S (ba st)[i])(u1:UpR ky (ba st) sa na)(u2:UpR ky (ba st) sb nb)(hfl:fN st=xn){Q:Bool->dg->Prop}
  (q:∀cL,kindOf cL=kindOf st->fN cL=xn->cC cL=((cC st).setIfInBounds i (sa,na+nb,pw)).eraseIdxIfInBounds (i+1)->Fused ky (ba st) (ba cL) sa (sb+nb)->Q yn cL):tw (aX prog w) A E s (mergeAt' i) Q st:=by
 refine aU (nc ?_);rw[p1,p2]
 dsimp only
 refine aU (b7f ?_);have b0:sb<(ba st).size:=by lia
 refine aU (m4 b0 ?_);refine aU (a3J H (by exact hk) u1 (λi h _ _=>sS i h) (sS _ b0) (by lia) xH λk k1 k2 k3=>?_)
 dsimp only
 have sW:(∀i (hi:i<(ba st).size),sa<=i->i<sb->O.kle (ky (ba st)[i]) (ky (ba st)[sb]))->Fused ky (ba st) (ba st) sa (sb+nb):=λh=>⟨jR _,λ_ _=>rfl,λi j hj gZ h1 h2=>by
  rcases dD j sb with c|c
  ·exact u1 i j hj gZ h1 (by lia)
  ·rcases dD i sb with d|d
   ·exact df (h i (by lia) h1 d) (u2 sb j hj c (aA _) (by lia))
   ·exact u2 i j hj gZ d (by lia)⟩
 by_cases c1:(na-k==0)=yn
 ·rw[aE c1];have e:na-k=0:=by simpa using c1
  exact be (q _ rfl hfl rfl (sW λi hi h1 h2=>k2 i hi h1 (by lia)))
 rw[aM c1];have e1:na-k≠0:=by simpa using c1
 have al:sa+k+(na-k)-1<(ba st).size:=by lia
 refine aU (m4 al ?_);refine aU (a3K H (by exact hk) u2 (λi h _ _=>sS i h) (sS _ al) (by lia) (by lia) λm m1 m2 m3=>?_)
 dsimp only
 by_cases c2:(m==0)=yn
 ·rw[aE c2];have e:m=0:=by simpa using c2
  refine be (q _ rfl hfl rfl (sW λi hi h1 h2=>?_));refine df (u1 i (sa+k+(na-k)-1) al (by lia) h1 (by lia)) (m3 sb b0 (by lia) (by lia))
 rw[aM c2];have e2:m≠0:=by simpa using c2
 have xs:((ba st).extract (sa+k) sb).size=na-k:=by rw[nK];lia
 have ys:((ba st).extract sb (sb+m)).size=m:=by rw[nK];lia
 have ux:UpA ky ((ba st).extract (sa+k) sb):=a2r u1 (by lia) (by lia) (by lia) (by lia);have uy:UpA ky ((ba st).extract sb (sb+m)):=a2r u2 (by lia) (by lia) (by lia) (by lia);have sx:∀i (h:i<((ba st).extract (sa+k) sb).size),S ((ba st).extract (sa+k) sb)[i]:=λi h=>by rw[dR];exact sS _ _
 have sy:∀i (h:i<((ba st).extract sb (sb+m)).size),S ((ba st).extract sb (sb+m))[i]:=λi h=>by rw[dR];exact sS _ _
 have hf:O.klt (ky (((ba st).extract sb (sb+m))[0]'(by lia))) (ky (((ba st).extract (sa+k) sb)[0]'(by lia))):=by
  rw[dR,dR];exact k3 (sa+k+0) (by lia) (by lia) (by lia)
 have hl:∀j (hj:j<((ba st).extract sb (sb+m)).size),O.klt (ky ((ba st).extract sb (sb+m))[j]) (ky (((ba st).extract (sa+k) sb)[((ba st).extract (sa+k) sb).size-1]'(by lia))):=λj hj=>by
  rw[dR,dR];have:=m2 (sb+j) (by lia) (by lia) (by lia);simp only[xs];have e:sa+k+(na-k-1)=sa+k+(na-k)-1:=by lia
  simp only[e];exact this
 have fin:∀out cL,SameG (setPending st (((cC st).setIfInBounds i (sa,na+nb,pw)).eraseIdxIfInBounds (i+1))) cL->S8 ky ((ba st).extract (sa+k) sb) ((ba st).extract sb (sb+m)) out->
   tw (aX prog w) A E s (do
    modify λs=>setArr s (out.toList.zipIdx.foldl (λa (p,j)=>a.setIfInBounds (sa+k+j) p) (ba s))
    return (fN (<-get)).isNone) Q cL:=by
  rintro out cL ⟨g1,g2,g3,g4⟩ hm;have os:out.size=na-k+m:=by
   have:=hm.1.length_eq;rw[az,aT,aT,aT,xs,ys]at this;exact this
  have nO:ba cL=ba st:=g2;have wl:=b0h (sa+k) out.toList 0 (ba st) (by rw[aT];lia);rw[Nat.add_zero,aT]at wl;refine aU (mw (aU (nc (be ?_))));have ff:(fN cL).isNone=yn:=by rw[show fN cL=fN st from g4,hfl];rfl
  show Q (fN cL).isNone _;rw[ff];refine q _ g1 (by show fN cL=xn;rw[show fN cL=fN st from g4,hfl]) g3 ?_;show Fused ky (ba st) (out.toList.zipIdx.foldl (λa (q:bQ×Nat)=>a.setIfInBounds (sa+k+q.2) q.1) (ba cL)) sa (sb+nb);rw[nO];generalize hW:out.toList.zipIdx.foldl (λa (q:bQ×Nat)=>a.setIfInBounds (sa+k+q.2) q.1) (ba st)=W at wl;have Bh:((ba st).extract (sa+k) sb).toList++((ba st).extract sb (sb+m)).toList=((ba st).toList.drop (sa+k)).take (na-k+m):=by
   rw[gM,gM];simp only[jY];rw[show sb-(sa+k)=na-k by lia,show sb+m-sb=m by lia,List.take_add,List.drop_drop,show sa+k+(na-k)=sb by lia]
  have ws:W.size=(ba st).size:=by
   have:=dH eh wl;rw[az,az,d_,iV,aT,aT,aT]at this;lia
  have lo:∀t,t<sa+k->W[t]?=(ba st)[t]?:=λt ht=>by
   rw[<-bU,wl,aV,dO (by rw[d_,aT];lia),kA ht,bU]
  have hi:∀t,sa+k+out.size<=t->W[t]?=(ba st)[t]?:=λt ht=>by
   rw[<-bU,wl,cQ (by rw[az,d_,aT,aT];lia),List.getElem?_drop,az,d_,aT,aT,<-bU]
   congr 1;lia
  have mid:∀t,t<out.size->W[sa+k+t]?=out[t]?:=λt ht=>by
   rw[<-bU,wl,aV,cQ (by rw[d_,aT];lia),d_,aT,dO (by rw[aT];lia),bU]
   congr 1;lia
  have src:∀x∈out.toList,∃u,∃h:u<(ba st).size,sa+k<=u/\u<sb+m/\x=(ba st)[u]:=λx hx=>by
   have h1:=hm.1.mem_iff.mp hx;rw[Bh]at h1;obtain⟨v,hv,e⟩:=je.mp h1;rw[d_,iV,aT]at hv;refine⟨sa+k+v,by lia,by lia,by lia,?_⟩;rw[<-e,List.getElem_take,Ct,bX]
  refine⟨?_,λt ht=>?_,λt1 t2 h2 GF hlo ue=>?_⟩
  ·rw[wl];have e:(ba st).toList=(ba st).toList.take (sa+k)++((ba st).toList.drop (sa+k)).take (na-k+m)++(ba st).toList.drop (sa+k+out.size):=by
    have e2:(ba st).toList.drop (sa+k+(na-k+m))=((ba st).toList.drop (sa+k)).drop (na-k+m):=by rw[List.drop_drop]
    rw[os,aV,e2,iO,iO]
   conv=>rhs;rw[e]
   refine List.Perm.append_right _ (lP _ ?_);rw[<-Bh];exact hm.1
  ·rcases ht with h|h
   ·exact lo t (by lia)
   ·exact hi t (by lia)
  ·have Fi:∀t (h:t<W.size) (h':t<(ba st).size),t<sa+k\/sa+k+out.size<=t->W[t]=(ba st)[t]:=λt h h' ht=>by
    have:=ht.elim (lo t) (hi t);rw[bC h,bC h']at this;exact aK this
   have md:∀t (h:t<W.size),sa+k<=t->t<sa+k+out.size->∃h':t-(sa+k)<out.size,W[t]=out[t-(sa+k)]:=λt h ht DA=>by
    have:=mid (t-(sa+k)) (by lia);rw[show sa+k+(t-(sa+k))=t by lia,bC h,bC (by lia)]at this;exact⟨by lia,aK this⟩
   have any:∀t (h:t<W.size),sa<=t->t<sb+nb->∃u,∃h':u<(ba st).size,W[t]=(ba st)[u]/\(u=t\/sa+k<=u/\u<sb+m/\sa+k<=t/\t<sa+k+out.size):=λt h ht DA=>by
    by_cases c:t<sa+k\/sa+k+out.size<=t
    ·exact⟨t,by lia,Fi t h _ c,.inl rfl⟩
    ·obtain⟨h',e⟩:=md t h (by lia) (by lia);obtain⟨u,hu,Dy,Dx,e'⟩:=src _ (kE h');exact⟨u,hu,e.trans e',.inr ⟨Dy,Dx,by lia,by lia⟩⟩
   have w1:t1<W.size:=by lia
   obtain⟨a,ha,ea,ca⟩:=any t1 w1 hlo (by lia);obtain⟨b,hb,eb,cb⟩:=any t2 h2 (by lia) (by lia);by_cases c:t1<sa+k
   ·rw[ea,eb];rcases dD b sb with z|z
    ·exact u1 a b hb (by lia) (by lia) (by lia)
    ·rcases dD a sb with y|y
     ·exact df (k2 a ha (by lia) (by lia)) (u2 sb b hb z (aA _) (by lia))
     ·lia
   by_cases d:sa+k+out.size<=t2
   ·rw[ea,eb];rcases dD a sb with y|y
    ·exact df (u1 a (sa+k+(na-k)-1) al (by lia) (by lia) (by lia)) (m3 b hb (by lia) (by lia))
    ·exact u2 a b hb (by lia) y (by lia)
   obtain⟨nN,e1⟩:=md t1 w1 (by lia) (by lia);obtain⟨n_,e2⟩:=md t2 h2 (by lia) (by lia);rcases dD t1 t2 with y|y
   ·have:=rq.mp hm.2 (t1-(sa+k)) (t2-(sa+k)) (by rw[aT];lia) (by rw[aT];lia) (by lia)
    rwa[bX,bX,<-e1,<-e2]at this
   ·have:t1=t2:=by lia
    subst this;exact eF _
 split
 ·exact aU (a7z H (by exact hk) ux uy sx sy (by lia) (by lia) hf hl λout cL hs hm=>fin out cL hs hm)
 ·exact aU (a7B H (by exact hk) ux uy sx sy (by lia) (by lia) hf hl λout cL hs hm=>fin out cL hs hm)
end
def a7D{α:Sort _}{P:α->Prop}{G:Prop}(code:α)(h:P code)(k:P code->G):G:=k h
section
variable {prog:bu}{w:bV}{A:bP}{E:ak->au->Prop}{s:au}{κ:eY}{O:KeyOrd}{ky:bQ->O.α}{S:bQ->Prop}{st:dg}
def kq(ky:bQ->O.α)(d:O.α)(arr:Array bQ)(t:Nat):O.α:=(arr[t]?.map ky).getD d
def Y3{xs ys:Array bQ}(h:xs[i]?=ys[j]?):kq ky d xs i=kq ky d ys j:=by unfold kq;rw[h]
def b0i{arr:Array bQ}(h:t<arr.size):kq ky d arr t=ky arr[t]:=by unfold kq;rw[bC h];rfl
def a1O{xs:Array bQ}(hj:j<=xs.size)(k:Nat):kq ky d (nL xs i j ((j-i) / 2)) k=if i<=k/\k<j then kq ky d xs (i+j-1-k) else kq ky d xs k:=by
 have e:=getElem?_mirror_all (i:=i) hj k
 split
 ·rename_i h;rw[aE h]at e;exact Y3 e
 ·rename_i h;rw[aM h]at e;exact Y3 e
def O6{xs:Array bQ}(hj:j<=xs.size)(heq:∀k,i<=k->k<j->kq ky d xs k=kq ky d xs (j-1))(k:Nat):kq ky d (nL xs i j ((j-i) / 2)) k=kq ky d xs k:=by
 rw[a1O hj]
 split
 ·rw[heq _ (by lia) (by lia),heq k (by lia) (by lia)]
 ·rfl
def AscTo(ky:bQ->O.α)(d:O.α)(arr:Array bQ)(lo n:Nat):Prop:=∀i j,i<=j->j<n->O.kle (kq ky d arr (lo+i)) (kq ky d arr (lo+j))
def a3L(ky:bQ->O.α)(d:O.α)(arr:Array bQ)(lo n:Nat):Prop:=∀i j,i<=j->j<n->O.kle (kq ky d arr (lo+j)) (kq ky d arr (lo+i))
def AscTo.up{d:O.α}{arr:Array bQ}{lo n:Nat}(h:AscTo ky d arr lo n):UpR ky arr lo n:=λi j hj gZ h1 h2=>by
 have:=h (i-lo) (j-lo) (by lia) (by lia);rw[show lo+(i-lo)=i by lia,show lo+(j-lo)=j by lia,b0i hj,b0i (show i<arr.size by lia)]at this;exact this
structure SB (S:bQ->Prop) (κ:eY) (kM st:dg) (lo hi:Nat):Prop where
 kind:kindOf st=κ
 fl:fN st=xn
 pn:cC st=cC kM
 pm:(ba st).Perm (ba kM)
 out:∀t,t<lo\/hi<=t->(ba st)[t]?=(ba kM)[t]?
 all:∀i (h:i<(ba st).size),S (ba st)[i]
theorem SB.size{kM:dg}{lo hi:Nat}(h:SB S κ kM st lo hi):(ba st).size=(ba kM).size:=by have:=(fD.mp h.pm).length_eq;simpa using this
def SB.mod{kM:dg}{lo hi:Nat}(h:SB S κ kM st lo hi){xs:Array bQ}(p:xs.Perm (ba st))(o:∀t,t<lo\/hi<=t->xs[t]?=(ba st)[t]?):SB S κ kM (setArr st xs) lo hi:=by
 refine⟨h.kind,h.fl,h.pn,p.trans h.pm,λt ht=>(o t ht).trans (h.out t ht),λi hi=>?_⟩;have hm:xs[i]∈(ba st).toList:=(fD.mp p).mem_iff.mp (kE hi);obtain⟨j,hj,e⟩:=je.mp hm;show S xs[i];rw[<-e,bX];exact h.all j (by simpa using hj)
def SB.mir{kM:dg}{lo hi i j:Nat}(h:SB S κ kM st lo hi)(h1:lo<=i)(h2:j<=hi)(h3:j<=(ba st).size):SB S κ kM (setArr st (nL (ba st) i j ((j-i) / 2))) lo hi:=h.mod (mirror_perm _ _ _ _) λt ht=>by
 rw[getElem?_mirror_all h3,aM (by lia)]
def N8(H:CmpS prog w A s κ O ky S){d:O.α}{kM:dg}{lo hi i j:Nat}(B:SB S κ kM st lo hi)(mT:i<(ba st).size)(qP:j<(ba st).size){Q:Option Bool->dg->Prop}(h:Q (cz (O.blt (kq ky d (ba st) i) (kq ky d (ba st) j))) st):tw (aX prog w) A E s (ltAt' i j) Q st:=by
 rw[ltAt'_eq];refine aU (nc ?_)
 dsimp only
 refine aU (m4 mT (aU (m4 qP ?_)));rw[b0i mT,b0i qP]at h;exact a3H H B.kind (B.all _ _) (B.all _ _) h
def a1k(h:Q () (setArr st (nL (ba st) i j ((j-i) / 2)))):tw (aX prog w) A E s (reverseSlice' i j) Q st:=by
 rw[reverseSlice'_eq];exact mw h
def a4I(H:CmpS prog w A s κ O ky S){d:O.α}{kM:dg}{lo ix:Nat}(B:SB S κ kM st lo (lo+ix))(hn:lo+ix<=(ba kM).size)(h1:1<=ix){Q:Option Nat->dg->Prop}
  (q:∀m cL,SB S κ kM cL lo (lo+ix)->1<=m->m<=ix->AscTo ky d (ba cL) lo m->Q (cz m) cL):tw (aX prog w) A E s (countRun' lo ix) Q st:=by
 have AA:∀{cL:dg},AscTo ky d (ba cL) lo 1:=λ{cL} i j gZ hj=>by
  have:i=j:=by lia
  subst this;exact eF _
 have pL:∀{cL:dg} {n:Nat},1<=n->AscTo ky d (ba cL) lo n->O.blt (kq ky d (ba cL) (lo+n)) (kq ky d (ba cL) (lo+n-1))=yH->AscTo ky d (ba cL) lo (n+1):=λ{cL n} xR ha hb i j gZ hj=>by
  by_cases c:j<n
  ·exact ha i j gZ c
  ·have:j=n:=by lia
   subst this;by_cases e:i=j
   ·subst e;exact eF _
   ·have h2:=ha i (j-1) (by lia) (by lia);rw[show lo+(j-1)=lo+j-1 by lia]at h2;exact df h2 hb
 have pJ:∀{cL:dg} {xs:Array bQ} {x:Nat},(∀k,kq ky d xs k=kq ky d (ba cL) k)->1<=x->a3L ky d (ba cL) lo x->O.kle (kq ky d (ba cL) (lo+x)) (kq ky d (ba cL) (lo+x-1))->a3L ky d xs lo (x+1):=λ{cL xs x} hk hx D2 hb i j gZ hj=>by
  rw[hk,hk];by_cases wx:j<x
  ·exact D2 i j gZ wx
  ·have:j=x:=by lia
   subst this;by_cases e:i=j
   ·subst e;exact eF _
   ·have h2:=D2 i (j-1) (by lia) (by lia);rw[show lo+(j-1)=lo+j-1 by lia]at h2;exact df hb h2
 rw[countRun'_eq];refine aU (fM (dE (I:=λx c cL=>cL=st/\c=(xn,x)/\AscTo ky d (ba st) lo x)
  (Q:=λc cL=>cL=st/\∃n,c=(xn,n)/\1<=n/\n<=ix/\AscTo ky d (ba st) lo n/\(n=ix\/O.klt (kq ky d (ba st) (lo+n)) (kq ky d (ba st) (lo+n-1)))) ?astep ?afin ⟨rfl,rfl,AA⟩) ?apost)
 case afin=>
  rintro c cL ⟨rfl,rfl,ha⟩;rw[show max 1 ix=ix by lia]at ha ⊢;exact⟨rfl,ix,rfl,h1,aA _,ha,.inl rfl⟩
 case astep=>
  rintro x c cL xI Dr ⟨rfl,rfl,ha⟩;have sz:=B.size
  dsimp only
  exact aU (N8 H (d:=d) B (by lia) (by lia) (k9 (λhb=>be ⟨rfl,x,rfl,xI,by lia,ha,.inr hb⟩) λhb=>be ⟨rfl,rfl,pL xI ha (eU.mpr hb)⟩))
 case apost=>
  rintro c cL ⟨rfl,n,rfl,n1,nn,ha,DI⟩;have sz:=B.size
  dsimp only
  refine k9 (λcn=>be (q n cL B n1 nn ha)) λcn=>?_
  have en:=x8 cn;have jz:O.klt (kq ky d (ba cL) (lo+n)) (kq ky d (ba cL) (lo+n-1)):=DI.resolve_left en;refine' a7D (P:=λcode=>∀xC:dg,SB S κ kM xC lo (lo+ix)->a3L ky d (ba xC) lo (n+1)->tw (aX prog w) A E s code Q xC) _ ?desc λdesc=>?main
  case main=>
   refine k9 (λwB=>?_) λwB=>?_
   ·refine aU (N8 H (d:=d) B (by lia) (by lia) (k9 (λpF=>be (q n cL B n1 nn ha)) λpF=>?_))
    ·have pF:=eU.mpr pF;have jk:∀t,lo<=t->t<lo+n->kq ky d (ba cL) t=kq ky d (ba cL) (lo+n-1):=λt t1 t2=>by
      have a1:=ha 0 (t-lo) (by lia) (by lia);have a2:=ha (t-lo) (n-1) (by lia) (by lia);rw[show lo+0=lo by lia,show lo+(t-lo)=t by lia]at a1;rw[show lo+(t-lo)=t by lia,show lo+(n-1)=lo+n-1 by lia]at a2;exact KeyOrd.kle_antisymm a2 (df pF a1)
     refine aU (a1k ?_);refine desc _ (B.mir (i:=lo) (j:=lo+n) (aA _) (by lia) (by lia)) λi j gZ hj=>?_
     show O.kle (kq ky d (nL (ba cL) lo (lo+n) ((lo+n-lo) / 2)) (lo+j)) (kq ky d (nL (ba cL) lo (lo+n) ((lo+n-lo) / 2)) (lo+i));rw[O6 (by lia) jk,O6 (by lia) jk];by_cases Ef:j<n
     ·rw[jk (lo+i) (by lia) (by lia),jk (lo+j) (by lia) (by lia)];exact eF _
     ·have qP:j=n:=by lia
      subst qP;by_cases mT:i=j
      ·subst mT;exact eF _
      ·rw[jk (lo+i) (by lia) (by lia)];exact cM jz
   ·have e:n=1:=by lia
    refine desc _ B λi j gZ hj=>?_
    by_cases mT:i=j
    ·subst mT;exact eF _
    ·have Ei:lo+i=lo+n-1:=by lia
     have Eg:lo+j=lo+n:=by lia
     rw[Ei,Eg];exact cM jz
  case desc=>
   intro xC B1 D1;have FZ:=B1.size;refine aU (S9 ?_);refine aU (fM (dE (I:=λx c lh=>∃nj,c=(xn,x,nj)/\SB S κ kM lh lo (lo+ix)/\a3L ky d (ba lh) lo x/\nj+1<=x/\∀t,lo+x-(nj+1)<=t->t<lo+x->kq ky d (ba lh) t=kq ky d (ba lh) (lo+x-1))
    (Q:=λc lh=>∃x nj,c=(xn,x,nj)/\n+1<=x/\x<=ix/\SB S κ kM lh lo (lo+ix)/\a3L ky d (ba lh) lo x/\nj+1<=x/\∀t,lo+x-(nj+1)<=t->t<lo+x->kq ky d (ba lh) t=kq ky d (ba lh) (lo+x-1)) ?dstep ?dfin ⟨0,rfl,B1,D1,by lia,λt t1 t2=>by rw[show t=lo+(n+1)-1 by lia]⟩) ?dpost)
   case dfin=>
    rintro c lh ⟨nj,rfl,B2,D2,q1,q2⟩;rw[show max (n+1) ix=ix by lia]at D2 q1 q2 ⊢;exact⟨ix,nj,rfl,by lia,aA _,B2,D2,q1,q2⟩
   case dstep=>
    rintro x c lh xI Dr ⟨nj,rfl,B2,D2,q1,q2⟩;have CM:=B2.size
    dsimp only
    refine aU (N8 H (d:=d) B2 (by lia) (by lia) (k9 (λlx=>?_) λlx=>?_))
    ·have sA:∀xs:Array bQ,(∀k,kq ky d xs k=kq ky d (ba lh) k)->a3L ky d xs lo (x+1):=λxs hk=>pJ hk (by lia) D2 (cM lx)
     refine k9 (λtX=>?_) λtX=>?_
     ·refine aU (a1k (be ⟨0,rfl,B2.mir (i:=lo+x-(nj+1)) (j:=lo+x) (by lia) (by lia) (by lia),sA _ (O6 (by lia) q2),by lia,λt t1 t2=>by rw[show t=lo+(x+1)-1 by lia]⟩))
     ·exact be ⟨0,rfl,B2,sA _ (λ_=>rfl),by lia,λt t1 t2=>by rw[show t=lo+(x+1)-1 by lia]⟩
    ·have lx:=eU.mpr lx;refine aU (N8 H (d:=d) B2 (by lia) (by lia) (k9 (λlS=>?_) λlS=>?_))
     ·exact be ⟨x,nj,rfl,xI,by lia,B2,D2,q1,q2⟩
     ·have lS:=eU.mpr lS;have wG:kq ky d (ba lh) (lo+x)=kq ky d (ba lh) (lo+x-1):=KeyOrd.kle_antisymm lS lx;refine be ⟨nj+1,rfl,B2,pJ (λ_=>rfl) (by lia) D2 (by rw[wG];exact eF _),by lia,λt t1 t2=>?_⟩;rw[show lo+(x+1)-1=lo+x by lia];by_cases zI:t=lo+x
      ·subst zI;rfl
      ·rw[wG];exact q2 t (by lia) (by lia)
   case dpost=>
    rintro c lh ⟨x,nj,rfl,x1,x2,B2,D2,q1,q2⟩;have CM:=B2.size
    dsimp only
    refine' a7D (P:=λcode=>∀jx:dg,SB S κ kM jx lo (lo+ix)->a3L ky d (ba jx) lo x->tw (aX prog w) A E s code Q jx) _ ?tl λtl=>?mn
    case mn=>
     refine k9 (λtX=>?_) λtX=>?_
     ·refine aU (a1k ?_);refine tl _ (B2.mir (i:=lo+x-(nj+1)) (j:=lo+x) (by lia) (by lia) (by lia)) λi j gZ hj=>?_
      show O.kle (kq ky d (nL (ba lh) (lo+x-(nj+1)) (lo+x) ((lo+x-(lo+x-(nj+1))) / 2)) (lo+j)) (kq ky d (nL (ba lh) (lo+x-(nj+1)) (lo+x) ((lo+x-(lo+x-(nj+1))) / 2)) (lo+i));rw[O6 (by lia) q2,O6 (by lia) q2];exact D2 i j gZ hj
     ·exact tl _ B2 D2
    case tl=>
     intro jx B3 D3;have FY:=B3.size;refine aU (a1k ?_);have B4:=B3.mir (i:=lo) (j:=lo+x) (aA _) (by lia) (by lia);have A4:AscTo ky d (ba (setArr jx (nL (ba jx) lo (lo+x) ((lo+x-lo) / 2)))) lo x:=λi j gZ hj=>by
      show O.kle (kq ky d (nL (ba jx) lo (lo+x) ((lo+x-lo) / 2)) (lo+i)) (kq ky d (nL (ba jx) lo (lo+x) ((lo+x-lo) / 2)) (lo+j));rw[a1O (by lia),a1O (by lia),aE (by lia),aE (by lia)];have:=D3 (x-1-j) (x-1-i) (by lia) (by lia);rw[show lo+(x-1-j)=lo+(lo+x)-1-(lo+j) by lia,show lo+(x-1-i)=lo+(lo+x)-1-(lo+i) by lia]at this;exact this
     generalize setArr jx (nL (ba jx) lo (lo+x) ((lo+x-lo) / 2))=kO at B4 A4 ⊢;refine aU (fM (dE (I:=λy c cL=>cL=kO/\c=(xn,y)/\AscTo ky d (ba kO) lo y)
      (Q:=λc cL=>cL=kO/\∃m,c=(xn,m)/\1<=m/\m<=ix/\AscTo ky d (ba kO) lo m) ?bstep ?bfin ⟨rfl,rfl,A4⟩) ?bpost)
     case bfin=>
      rintro c cL ⟨rfl,rfl,ha⟩;rw[show max x ix=ix by lia]at ha ⊢;exact⟨rfl,ix,rfl,h1,aA _,ha⟩
     case bstep=>
      rintro y c cL Gj Gi ⟨rfl,rfl,ha⟩;have FX:=B4.size
      dsimp only
      exact aU (N8 H (d:=d) B4 (by lia) (by lia) (k9 (λhb=>be ⟨rfl,y,rfl,by lia,by lia,ha⟩) λhb=>be ⟨rfl,rfl,pL (by lia) ha (eU.mpr hb)⟩))
     case bpost=>
      rintro c cL ⟨rfl,m,rfl,m1,m2,ha⟩;exact be (q m cL B4 m1 m2 ha)
def a5t{xs:Array bQ}(hs:src<xs.size)(hd:e<=src)(k:Nat) :
  kq ky d (bubble xs src e) k=if k=src-e then kq ky d xs src else if src-e<k/\k<=src then kq ky d xs (k-1) else kq ky d xs k:=by
 have e:=getElem?_bubble hs e hd k
 split
 ·rename_i h1;rw[aE h1]at e;exact Y3 e
 ·rename_i h1
  rw[aM h1]at e
  split
  ·rename_i h2;rw[aE h2]at e;exact Y3 e
  ·rename_i h2;rw[aM h2]at e;exact Y3 e
def a2K(H:CmpS prog w A s κ O ky S){d:O.α}{kM:dg}{lo hi n ok:Nat}(B:SB S κ kM st lo hi)(hn:lo+n<=(ba kM).size)(hh:lo+n<=hi)(hok:ok<=n)(hs:AscTo ky d (ba st) lo ok){Q:Bool->dg->Prop}
  (q:∀cL,SB S κ kM cL lo hi->AscTo ky d (ba cL) lo n->Q yn cL):tw (aX prog w) A E s (binarySort' lo n ok) Q st:=by
 rw[binarySort'_eq];refine aU (fM (dE (I:=λk c cL=>c=(xn,())/\SB S κ kM cL lo hi/\AscTo ky d (ba cL) lo (min k n))
  (Q:=λc cL=>c=(xn,())/\SB S κ kM cL lo hi/\AscTo ky d (ba cL) lo n) ?step ?fin ?init) ?post)
 case post=>
  rintro c cL ⟨rfl,B',iZ⟩;exact be (q cL B' iZ)
 case init=>
  refine⟨rfl,B,λi j gZ hj=>?_⟩;by_cases h1:ok=0
  ·have:i=j:=by lia
   subst this;exact eF _
  ·exact hs i j gZ (by lia)
 case fin=>
  rintro c cL ⟨hc,B',iZ⟩;refine⟨hc,B',?_⟩
  rwa[show min (max (max ok 1) n) n=n by lia]at iZ
 case step=>
  rintro k c cL Gw wm ⟨rfl,B',iZ⟩;rw[show min k n=k by lia]at iZ;have sz:=B'.size;refine aU (fM (dE (I:=λx c fy=>fy=cL/\∃l r,c=(xn,l,r)/\l<=r/\r<=k/\r-l<=k-x/\
    (∀i,i<l->O.kle (kq ky d (ba cL) (lo+i)) (kq ky d (ba cL) (lo+k)))/\(∀i,r<=i->i<k->O.klt (kq ky d (ba cL) (lo+k)) (kq ky d (ba cL) (lo+i))))
   (Q:=λc fy=>fy=cL/\∃l r,c=(xn,l,r)/\l<=k/\
    (∀i,i<l->O.kle (kq ky d (ba cL) (lo+i)) (kq ky d (ba cL) (lo+k)))/\(∀i,l<=i->i<k->O.klt (kq ky d (ba cL) (lo+k)) (kq ky d (ba cL) (lo+i)))) ?istep ?ifin ?iinit) ?ipost)
  case iinit=>exact⟨rfl,0,k,rfl,by lia,by lia,by lia,λi hi=>by lia,λi h1 h2=>by lia⟩
  case ifin=>
   rintro c fy ⟨rfl,l,r,rfl,DW,zd,hm,hlo,ue⟩;have:l=r:=by lia
   subst this;exact⟨rfl,l,l,rfl,zd,hlo,ue⟩
  case istep=>
   rintro x c fy _ Bi ⟨rfl,l,r,rfl,DW,zd,hm,hlo,ue⟩
   dsimp only
   by_cases uV:l≥r
   ·rw[aE uV];have:l=r:=by lia
    subst this;exact be ⟨rfl,l,l,rfl,zd,hlo,ue⟩
   ·rw[aM uV];refine aU (N8 H (d:=d) B' (by lia) (by lia) ?_)
    dsimp only
    cases lx:O.blt (kq ky d (ba fy) (lo+k)) (kq ky d (ba fy) (lo+(l+r) / 2)) with
    |true=>
     rw[aE rfl];refine be ⟨rfl,l,(l+r) / 2,rfl,by lia,by lia,by lia,hlo,λi h1 h2=>?_⟩;exact fx lx (iZ _ _ h1 h2)
    |false=>
     simp only[bz,du];refine be ⟨rfl,(l+r) / 2+1,r,rfl,by lia,by lia,by lia,λi h1=>?_,ue⟩;exact df (iZ i ((l+r) / 2) (by lia) (by lia)) (show O.kle _ _ from lx)
  case ipost=>
   rintro c fy ⟨rfl,l,r,rfl,Bz,hlo,ue⟩;show tw _ _ _ _ (do moveDown' (lo+k) (lo+l);pure (fG (xn,()))) _ _;rw[moveDown'_eq];have ly:lo+k<(ba fy).size:=by lia
   refine aU (mw (be ⟨rfl,B'.mod (bubble_perm _ _ _) λt ht=>?_,?_⟩))
   ·rw[getElem?_bubble ly _ (by lia),aM (by lia),aM (by lia)]
   rw[show min (k+1) n=k+1 by lia];intro i j gZ hj;show O.kle (kq ky d (bubble (ba fy) (lo+k) (lo+k-(lo+l))) (lo+i)) (kq ky d (bubble (ba fy) (lo+k) (lo+k-(lo+l))) (lo+j));rw[a5t ly (by lia),a5t ly (by lia),show lo+k-(lo+k-(lo+l))=lo+l by lia];have nT:∀a b,lo<=a->a<=b->b<lo+k->O.kle (kq ky d (ba fy) a) (kq ky d (ba fy) b):=λa b h1 h2 h3=>by
    have:=iZ (a-lo) (b-lo) (by lia) (by lia)
    rwa[show lo+(a-lo)=a by lia,show lo+(b-lo)=b by lia]at this
   have zK:∀a,lo+l<=a->a<lo+k->O.klt (kq ky d (ba fy) (lo+k)) (kq ky d (ba fy) a):=λa h1 h2=>by
    have:=ue (a-lo) (by lia) (by lia)
    rwa[show lo+(a-lo)=a by lia]at this
   repeat' split
   all_goals first
    | (exfalso;lia)
    |exact eF _
    |exact hlo _ (by lia)
    |exact cM (zK _ (by lia) (by lia))
    |exact nT _ _ (by lia) (by lia) (by lia)
def Chain(ky:bQ->O.α)(arr:Array bQ):List (Nat×Nat)->Nat->Nat->Prop
 |[],a,b=>a=b
 | (x,n)::l,a,b=>x=a/\0<n/\UpR ky arr x n/\Chain ky arr l (x+n) b
theorem Chain.len:∀{l:List (Nat×Nat)} {a b:Nat},Chain ky arr l a b->a+l.length<=b
 |[],a,b,h=>by have h:a=b:=h;simp;lia
 | (x,n)::l,a,b,⟨e,h0,_,h⟩=>by have:=h.len;rw[aY];lia
theorem Chain.app{arr:Array bQ}{l2:List (Nat×Nat)}:∀{l1:List (Nat×Nat)} {a b:Nat},Chain ky arr (l1++l2) a b↔∃c,Chain ky arr l1 a c/\Chain ky arr l2 c b
 |[],a,b=>⟨λh=>⟨a,rfl,h⟩,λ⟨c,e,h⟩=>by have e:a=c:=e;subst e;exact h⟩
 | (x,n)::l,a,b=>by
  show (x=a/\0<n/\UpR ky arr x n/\Chain ky arr (l++l2) (x+n) b)↔_;rw[Chain.app (l1:=l)];exact⟨λ⟨h1,h2,h3,c,h4,h5⟩=>⟨c,⟨h1,h2,h3,h4⟩,h5⟩,λ⟨c,⟨h1,h2,h3,h4⟩,h5⟩=>⟨h1,h2,h3,c,h4,h5⟩⟩
def UpR.congr{arr mH:Array bQ}(h:UpR ky arr x n)(e:∀t,x<=t->t<x+n->mH[t]?=arr[t]?):UpR ky mH x n:=λi j hj gZ h1 h2=>by
 have ej:=e j (by lia) h2;have ei:=e i h1 (by lia);rw[bC hj]at ej;rw[bC (show i<mH.size by lia)]at ei;obtain⟨j2,yg⟩:=rg.mp ej.symm;obtain⟨i2,yh⟩:=rg.mp ei.symm;rw[<-yg,<-yh];exact h i j j2 gZ h1 h2
theorem Chain.congr{arr mH:Array bQ}:∀{l:List (Nat×Nat)} {a b:Nat},Chain ky arr l a b->(∀t,a<=t->t<b->mH[t]?=arr[t]?)->Chain ky mH l a b
 |[],a,b,h,_=>h
 | (x,n)::l,a,b,⟨e,h0,u,h⟩,he=>by
  have hl:=h.len;exact⟨e,h0,u.congr λt t1 t2=>he t (by lia) (by lia),h.congr λt t1 t2=>he t (by lia) t2⟩
def a0P(st:dg):List (Nat×Nat):=(cC st).toList.map λr=>(r.1,r.2.1)
structure RI (S:bQ->Prop) (κ:eY) (ky:bQ->O.α) (a0:Array bQ) (st:dg) (lo:Nat):Prop where
 kind:kindOf st=κ
 fl:fN st=xn
 pm:(ba st).Perm a0
 all:∀i (h:i<(ba st).size),S (ba st)[i]
 ch:Chain ky (ba st) (a0P st) 0 lo
 hlo:lo<=a0.size
theorem RI.size{a0:Array bQ}{lo:Nat}(h:RI S κ ky a0 st lo):(ba st).size=a0.size:=by have:=(fD.mp h.pm).length_eq;simpa using this
def a7E{α:Type}{l:List α}(h:i+1<l.length):l=l.take i++l[i]::l[i+1]::l.drop (i+2):=by
 conv=>lhs;rw[<-iO i l]
 rw[dP (show i<l.length by lia),dP h]
def a5u(l1 l2:List α)(a b v:α):((l1++a::b::l2).set l1.length v).eraseIdx (l1.length+1)=l1++v::l2:=by
 induction l1 with
 |nil=>rfl
 |cons x l1 ih=>simp only[bG,aY,fX,List.eraseIdx_cons_succ,ih]
def a7F(p:Array α)(i:Nat)(v:α):((p.setIfInBounds i v).eraseIdxIfInBounds (i+1)).toList=(p.toList.set i v).eraseIdx (i+1):=by
 obtain⟨l⟩:=p;simp
def RI.merge(H:CmpS prog w A s κ O ky S){a0:Array bQ}{lo i:Nat}(R:RI S κ ky a0 st lo)(hi:i+1<(cC st).size){Q:Bool->dg->Prop}
  (q:∀cL,RI S κ ky a0 cL lo->(∀t,lo<=t->(ba cL)[t]?=(ba st)[t]?)->(cC cL).size+1=(cC st).size->Q yn cL):tw (aX prog w) A E s (mergeAt' i) Q st:=by
 have hl:i+1<(cC st).toList.length:=by rw[aT];exact hi
 have sp:=a7E hl;have yO:((cC st).toList.take i).length=i:=by rw[d_];lia
 generalize Gr:(cC st).toList.take i=l1 at sp yO;generalize rK:(cC st).toList.drop (i+2)=l2 at sp;obtain⟨⟨sa,na,pw⟩,ea⟩:∃x,x=(cC st).toList[i]:=⟨_,rfl⟩;obtain⟨⟨sb,nb,yC⟩,eb⟩:∃x,x=(cC st).toList[i+1]:=⟨_,rfl⟩;rw[<-ea,<-eb]at sp;have p1:(cC st)[i]?=cz (sa,na,pw):=by rw[bC (by lia),ea,bX]
 have p2:(cC st)[i+1]?=cz (sb,nb,yC):=by rw[bC hi,eb,bX]
 have ch:=R.ch;rw[a0P,sp,aQ,Chain.app]at ch;obtain⟨c,c1,e1,xH,u1,e2,yI,u2,c2⟩:=ch
 dsimp only at e1 xH u1 e2 yI u2 c2
 have cl:=c2.len;have GQ:=c1.len;have sz:=R.size;have AR:=R.hlo;refine a7C H R.kind p1 p2 e2 xH yI (by lia) R.all u1 u2 R.fl λcL k' f' pe F=>q cL ⟨k'.trans R.kind,f',(fD.mpr F.pm).trans R.pm,λi hi=>?_,?_,AR⟩ (λt ht=>F.out t (by lia)) ?_
 ·have hm:(ba cL)[i]∈(ba st).toList:=F.pm.mem_iff.mp (kE hi);obtain⟨j,hj,e⟩:=je.mp hm;rw[<-e,bX];exact R.all j (by simpa using hj)
 ·have e:(cC cL).toList=l1++(sa,na+nb,pw)::l2:=by
   rw[pe,a7F,sp]
   conv=>lhs;rw[<-yO]
   exact a5u _ _ _ _ _
  rw[a0P,e,aQ,Chain.app];refine⟨c,c1.congr λt _ t2=>F.out t (by lia),e1,by dsimp only;lia,?_,?_⟩
  ·dsimp only
   have:=F.up
   rwa[show sb+nb-sa=na+nb by lia]at this
  ·dsimp only
   rw[show sa+(na+nb)=sb+nb by lia];exact c2.congr λt t1 _=>F.out t (by lia)
 ·have:=dH eh (dH Array.toList pe);rw[a7F,sp]at this;rw[<-yO,a5u]at this;have h2:=dH eh sp;simp only[aT,az,aY]at this h2;lia
def RI.pend{a0:Array bQ}{lo:Nat}(R:RI S κ ky a0 st lo){p:Array (Nat×Nat×Nat)}(e:p.toList.map (λr=>(r.1,r.2.1))=a0P st):RI S κ ky a0 (setPending st p) lo:=
 ⟨R.kind,R.fl,R.pm,R.all,by show Chain ky (ba st) (p.toList.map _) 0 lo;rw[e];exact R.ch,R.hlo⟩
theorem RI.push{a0:Array bQ}{lo n:Nat}(R:RI S κ ky a0 st lo)(n0:0<n)(hn:lo+n<=a0.size)(u:UpR ky (ba st) lo n):RI S κ ky a0 (setPending st ((cC st).push (lo,n,0))) (lo+n):=
 ⟨R.kind,R.fl,R.pm,R.all,by
  show Chain ky (ba st) (((cC st).push (lo,n,0)).toList.map _) 0 (lo+n);rw[cm,aQ,Chain.app];exact⟨lo,R.ch,rfl,n0,u,rfl⟩,hn⟩
def RI.sb{a0:Array bQ}{lo hi:Nat}(R:RI S κ ky a0 st lo):SB S κ st st lo hi:=⟨R.kind,R.fl,rfl,GZ _,λ_ _=>rfl,R.all⟩
def RI.ofSB{a0:Array bQ}{lo hi:Nat}{cL:dg}(R:RI S κ ky a0 st lo)(B:SB S κ st cL lo hi):RI S κ ky a0 cL lo:=
 ⟨B.kind,B.fl,B.pm.trans R.pm,B.all,by
  unfold a0P;rw[B.pn];exact R.ch.congr λt _ t2=>B.out t (.inl t2),R.hlo⟩
def b7g[Decidable c](h1:a+1<n)(h2:b+1<n):(if c then a else b)+1<n:=by split<;>assumption
def a4J(p:Array (Nat×Nat×Nat))(i pw:Nat):(p.modify i λ(x,len,_)=>(x,len,pw)).toList.map (λr=>(r.1,r.2.1))=p.toList.map λr=>(r.1,r.2.1):=by
 apply kj;intro k;rw[a_,a_,bU,bU,Array.getElem?_modify]
 split
 ·cases p[k]?<;>rfl
 ·rfl
def a4K(H:CmpS prog w A s κ O ky S)(d:O.α)(R0:RI S κ ky a0 st 0) 
  (q:∀cL,(ba cL).Perm a0->fN cL=xn->UpA ky (ba cL)->Q () cL):tw (aX prog w) A E s sortRuns' Q st:=by
 rw[sortRuns'_eq];refine aU (nc ?_)
 try dsimp only
 simp only[R0.size];refine aU (fM (dE
  (I:=λx c cL=>∃lo,c=(xn,lo)/\RI S κ ky a0 cL lo/\x<=lo)
  (Q:=λc cL=>c=(xn,a0.size)/\RI S κ ky a0 cL a0.size) ?step ?fin ⟨0,rfl,R0,aA _⟩) ?post)
 case fin=>
  rintro c cL ⟨lo,rfl,R,h⟩;have:=R.hlo;have e:lo=a0.size:=by lia
  subst e;exact⟨rfl,R⟩
 case step=>
  rintro x c cL _ hx ⟨lo,rfl,R,h⟩
  try dsimp only
  have AR:=R.hlo;by_cases c1:lo≥a0.size
  ·rw[aE c1];have e:lo=a0.size:=by lia
   subst e;exact be ⟨rfl,R⟩
  rw[aM c1];have sz:=R.size;refine aU (a4I H (d:=d) R.sb (by lia) (by lia) λm lh B2 m1 m2 A2=>?_)
  try dsimp only
  by_cases c2:m<minRun' a0.size a0.size 0
  case' pos=>
   rw[aE c2];refine aU (S9 ?_);have f1:lo+min (a0.size-lo) (minRun' a0.size a0.size 0)<=a0.size:=by lia
   have f2:m<=min (a0.size-lo) (minRun' a0.size a0.size 0):=by lia
   generalize min (a0.size-lo) (minRun' a0.size a0.size 0)=n at f1 f2 ⊢;refine aU (a2K H (d:=d) B2 (by lia) (by lia) f2 A2 λjx B3 A3=>?_);simp only[ic,bz,du];have n0:0<n:=by lia
   have R3:=R.ofSB B3;have u3:=A3.up
  case' neg=>
   rw[aM c2];obtain⟨n,en⟩:∃n,n=m:=⟨m,rfl⟩;obtain⟨jx,es⟩:∃jx,jx=lh:=⟨lh,rfl⟩;rw[<-en,<-es];have n0:0<n:=by lia
   have f1:lo+n<=a0.size:=by lia
   have R3:RI S κ ky a0 jx lo:=by rw[es];exact R.ofSB B2
   have u3:UpR ky (ba jx) lo n:=by rw[es,en];exact A2.up
  all_goals
   refine aU (nc ?_);have fin:∀kO:dg,RI S κ ky a0 kO lo->UpR ky (ba kO) lo n->∃yL,(xn,lo+n)=((xn,yL):Option Unit×Nat)/\RI S κ ky a0 (setPending kO ((cC kO).push (lo,n,0))) yL/\x+1<=yL:=λkO R4 u4=>⟨lo+n,rfl,R4.push n0 f1 u4,by lia⟩
   cases hb:(cC jx).back? with
   |none=>
    try dsimp only
    exact aU (mw (be (fin _ R3 u3)))
   |some r=>
    obtain⟨s1,n1,Ga⟩:=r
    try dsimp only
    refine aU (fM (dE (I:=λ_ c kO=>c=(xn,())/\RI S κ ky a0 kO lo/\UpR ky (ba kO) lo n) (Q:=λc kO=>c=(xn,())/\RI S κ ky a0 kO lo/\UpR ky (ba kO) lo n) ?_ (λ_ _ hh=>hh) ⟨rfl,R3,u3⟩) ?_)
    ·rintro y c kO _ _ ⟨rfl,R4,u4⟩
     try dsimp only
     refine aU (nc ?_);by_cases c3:(cC kO).size>1
     ·rw[aE c3,bC (by lia)];generalize (cC kO)[(cC kO).size-2]'(by lia)=r2;obtain⟨s2,n2,vC⟩:=r2
      try dsimp only
      by_cases c4:vC<=power' a0.size (2*s1+n1) (2*s1+n1+n1+n) a0.size
      ·rw[aE c4];exact be ⟨rfl,R4,u4⟩
      ·rw[aM c4];refine aU (R4.merge H (by lia) λqE R5 o5 _=>?_);simp only[ic,bz,du];exact be ⟨rfl,R5,u4.congr λt t1 _=>o5 t t1⟩
     ·rw[aM c3];exact be ⟨rfl,R4,u4⟩
    ·rintro c kO ⟨rfl,R4,u4⟩
     try dsimp only
     exact aU (mw (aU (mw (be (fin _ (R4.pend (a4J _ _ _)) u4)))))
 case post=>
  rintro c cL ⟨rfl,R⟩
  try dsimp only
  have cl:=R.ch.len;rw[a0P,aj,aT]at cl;refine aU (fM (dE (I:=λx c fy=>c=(xn,())/\RI S κ ky a0 fy a0.size/\(cC fy).size+x<=a0.size) (Q:=λc fy=>c=(xn,())/\RI S κ ky a0 fy a0.size/\(cC fy).size<=1) ?_ ?_ ⟨rfl,R,by lia⟩) ?_)
  ·rintro x c fy _ hx ⟨rfl,R2,h2⟩
   try dsimp only
   refine aU (nc ?_);by_cases c1:(cC fy).size<=1
   ·rw[aE c1];exact be ⟨rfl,R2,c1⟩
   rw[aM c1];refine aU (R2.merge H (b7g (by lia) (by lia)) λqE R5 _ e5=>?_);simp only[ic,bz,du];exact be ⟨rfl,R5,by lia⟩
  ·rintro c fy ⟨rfl,R2,h2⟩;exact⟨rfl,R2,by lia⟩
  ·rintro c fy ⟨rfl,R2,h2⟩;refine be (q fy R2.pm R2.fl ?_);have ch:=R2.ch;have sz:=R2.size;unfold a0P at ch;generalize hp:(cC fy).toList=l at ch;have hl:l.length<=1:=by rw[<-hp,aT];exact h2
   rcases l with _|⟨⟨x,n,pw⟩,_|⟨_,_⟩⟩
   ·have ch:0=a0.size:=ch;intro i j hj gZ;lia
   ·obtain⟨e1,_,u,e2⟩:=ch;have e2:x+n=a0.size:=e2;intro i j hj gZ;exact u i j hj gZ (by dsimp only at e1 ⊢;lia) (by dsimp only at e1 ⊢;lia)
   ·simp at hl
end
end VS
namespace VS
open PyProof.Rows
def b1U{α β:Type}{f:α->β}{l l':List β}(h:l.Perm l'):∀m:List α,l'=m.map f->∃m':List α,m'.Perm m/\l=m'.map f:=by
 induction h with
 |nil=>intro m e;exact⟨m,jR _,e⟩
 |cons x _ ih=>
  intro m e
  match m,e with
  |y::m,e=>
   rw[ay,gk]at e;obtain⟨m',p,e2⟩:=ih m e.2;exact⟨y::m',p.cons y,by rw[ay,e.1,e2]⟩
 |swap x y l=>
  intro m e
  match m,e with
  |a::b::m,e=>
   rw[ay,ay,gk,gk]at e;exact⟨b::a::m,List.Perm.swap a b m,by rw[ay,ay,e.1,e.2.1,e.2.2]⟩
 |trans _ _ yR yQ=>
  intro m e;obtain⟨m1,p1,e1⟩:=yQ m e;obtain⟨m2,p2,e2⟩:=yR m1 e1;exact⟨m2,p2.trans p1,e2⟩
section
variable {prog:bu}{w:bV}{A:bP}{E:ak->au->Prop}{s:au}{κ:eY}{O:KeyOrd}{key:Nat->O.α}{ks vs:List ak}
noncomputable def b7h(key:Nat->O.α)(ks:List ak)(x:bQ):O.α:=
 open Classical in if h : ∃ i, i<ks.length /\ ks.getD i bx = x.1 then key h.choose else key 0
def a6t(cong:∀i j,i<ks.length->j<ks.length->ks.getD i bx=ks.getD j bx->key i=key j){x:bQ}(hi:i<ks.length)(e:ks.getD i bx=x.1):b7h key ks x=key i:=by
 have h:∃i,i<ks.length/\ks.getD i bx=x.1:=⟨i,hi,e⟩;unfold b7h;rw[dif_pos h];exact cong _ _ h.choose_spec.1 hi (h.choose_spec.2.trans e.symm)
def b7i(hl:ks.length=vs.length)(jz:∀(i j:Nat) (C:Bool->au->Prop),i<vs.length->j<vs.length->C (O.blt (key i) (key j)) s->aZ (aX prog w) A (keyLt' κ (ks.getD i bx) (ks.getD j bx)) C (λ_ _=>False) s)
  (cong:∀i j,i<ks.length->j<ks.length->ks.getD i bx=ks.getD j bx->key i=key j) :
  aZ (aX prog w) A ((sortRuns').run (dg.mk' κ (ks.toArray.zip vs.toArray) #[] 7 xn)) (λr s'=>s'=s/\∃p:Array Nat,ba r.2=p.map (mC (ks.toArray.zip vs.toArray))/\fN r.2=xn/\AllN vs.length p/\b1S key p vs.length) E s:=by
 have zs:(ks.toArray.zip vs.toArray).size=vs.length:=by simp[hl]
 have it:∀i,i<vs.length->mC (ks.toArray.zip vs.toArray) i=(ks.getD i bx,vs.getD i bx):=λi hi=>PySem.W.kat_item hl i
 have hz:∀i (h:i<(ks.toArray.zip vs.toArray).size),(ks.toArray.zip vs.toArray)[i]=(ks.getD i bx,vs.getD i bx):=λi h=>by
  rw[<-it i (by lia)];unfold mC;rw[AL,dif_pos h];rfl
 have H:CmpS prog w A s κ O (b7h key ks) (λx=>∃i,i<vs.length/\x.1=ks.getD i bx):=⟨λx y ⟨i,hi,ei⟩ ⟨j,hj,ej⟩ C hC=>by
  rw[a6t cong (by lia) ei.symm,a6t cong (by lia) ej.symm]at hC;rw[ei,ej];exact jz i j C hi hj hC⟩
 show tw (aX prog w) A E s sortRuns' (λ_ cL=>∃p:Array Nat,ba cL=p.map (mC (ks.toArray.zip vs.toArray))/\fN cL=xn/\AllN vs.length p/\b1S key p vs.length) (dg.mk' κ (ks.toArray.zip vs.toArray) #[] 7 xn);refine a4K (st:=dg.mk' κ (ks.toArray.zip vs.toArray) #[] 7 xn) H (key 0) (a0:=ks.toArray.zip vs.toArray) ⟨rfl,rfl,GZ _,λi h=>⟨i,?_,?_⟩,rfl,cG _⟩ λcL pm fl up=>?_
 ·have h':i<(ks.toArray.zip vs.toArray).size:=h;lia
 ·show (ks.toArray.zip vs.toArray)[i].1=_;rw[hz]
 have el:(ks.toArray.zip vs.toArray).toList=(aB vs.length).map (mC (ks.toArray.zip vs.toArray)):=by
  apply iX
  ·rw[aT,aj,bE];exact zs
  intro i h1 h2;rw[bX,dC,nI,hz,it i (by rw[aT]at h1;lia)]
 obtain⟨p,pp,pe⟩:=b1U (fD.mp pm) _ el;have hp:AllN vs.length p.toArray:=pp;have ea:ba cL=p.toArray.map (mC (ks.toArray.zip vs.toArray)):=by
  apply Array.toList_inj.mp;rw[Array.toList_map,pe]
 refine⟨p.toArray,ea,fl,hp,λi j gZ hj=>?_⟩;have gn:p.length=vs.length:=by have:=pp.length_eq;rw[bE]at this;exact this
 have sz:(ba cL).size=vs.length:=by rw[ea,Array.size_map,bt];exact gn
 have hk:∀t (ht:t<(ba cL).size),b7h key ks (ba cL)[t]=kyP key p.toArray t:=λt ht=>by
  have y_:t<p.length:=by lia
  have hm:p[t]<vs.length:=bO.mp (pp.mem_iff.mp (dB y_));have e1:(ba cL)[t]=mC (ks.toArray.zip vs.toArray) p[t]:=by
   have:(ba cL)[t]?=(p.toArray.map (mC (ks.toArray.zip vs.toArray)))[t]?:=by rw[ea]
   rw[bC ht,Array.getElem?_map]at this;simp only[List.getElem?_toArray,ag y_,qd,ou]at this;exact this
  rw[e1,it _ hm,a6t cong (i:=p[t]) (by lia) rfl];unfold kyP;simp[AL,y_]
 have:=up i j (by lia) gZ;rw[hk i (by lia),hk j (by lia)]at this;exact this
end
end VS
namespace VS
open PySem.Spec L2
open PyProof.Rows (KeyOrd keyKind' keyLt')
section
variable {prog:bu}{w:bV}{A:bP}{E:ak->au->Prop}{sh:au}{vs:List ak}{κ:eY}{O:KeyOrd}{key:Nat->O.α}
def Kept(h h':cB):Prop:=∀b o,h.get? b=cz o->h'.get? b=cz o
theorem Kept.push(x:Kept h h')(o:fV):Kept h (h'.push o):=λb u e=>aF _ (x b u e)
def Kept.upd(x:Kept h h')(f:fV->fV)(ha:h.objs.size<=a):Kept h (h'.update a f):=λb u e=>by
 rw[dQ _ _ (jC (bb (aS e) ha))];exact x b u e
structure Sortable (prog:bu) (w:bV) (A:bP) (h0:cB) (ks:List ak) (κ:eY) (O:KeyOrd) (key:Nat->O.α):Prop where
 kind:2<=ks.length->∀(s:au) (E:ak->au->Prop) (Q:eY->au->Prop),Kept h0 s.heap->Q κ s->aZ (aX prog w) A (keyKind' ks.toArray) Q E s
 lt:∀(s:au) (i j:Nat) (C:Bool->au->Prop),Kept h0 s.heap->i<ks.length->j<ks.length->C (O.blt (key i) (key j)) s->aZ (aX prog w) A (keyLt' κ (ks.getD i bx) (ks.getD j bx)) C (λ_ _=>False) s
 cong:∀i j,i<ks.length->j<ks.length->ks.getD i bx=ks.getD j bx->key i=key j
def Gives(prog:bu)(w:bV)(A:bP)(sh:au)(r:ak)(vs:List ak):Prop:=
 ∀(E:ak->au->Prop) (Q:List ak->au->Prop),(∀(h':cB) (tk:Nat),Kept sh.heap h'->sh.heap.objs.size<=h'.objs.size->Q vs {sh with heap:=h',toks:=tk})->aZ (aX prog w) A (collect r) Q E sh
def a8V(hh:A.handled=xn)(h0:(d==dG)=yH)(hm:sh.heap.RawDict d rows ep)(hz:rows.size<=bg):Gives prog w A sh (.ref d) (rows.toList.map (·.key)):=λE Q q=>by
 have hd:d<sh.heap.objs.size:=let⟨_,hu,_⟩:=hm;aS hu
 have fin:∀(h':cB) (tk:Nat) (acc:Array ak) (c:Nat),(∀b o,b≠sh.heap.objs.size->(sh.heap.push {cls:=.type "list",data:=.seq ([]:List ak).toArray}).get? b=cz o->h'.get? b=cz o)->
   h'.get? sh.heap.objs.size=cz {cls:=.type "list",dict:=xn,data:=.seq acc c,slots:=#[]}->rd (λi v=>∃e,rows[i]?=cz e/\v=e.key) acc rows.size->Q acc.toList {sh with heap:=h',toks:=tk}:=by
  intro h' tk acc c hk hS oW;have e:acc.toList=rows.toList.map (·.key):=by
   refine kj λi=>?_
   rw[a_,bU,bU];by_cases c:i<rows.size
   ·obtain⟨x,hx⟩:∃x,acc[i]?=cz x:=⟨_,bC (by rw[oW.1];exact c)⟩;obtain⟨y,h1,h2⟩:=oW.2 i x hx;rw[hx,h1,h2];rfl
   ·rw[fY (by rw[oW.1];lia),fY (by lia)];rfl
  rw[e];exact q h' tk (λb o x=>hk b o (bI (aS x)) (aF _ x)) (fg (aS hS))
 unfold collect;refine af (wpAny_runValue (uA PyProof.Rows.entry_proto_collect' ?_));rw[bP.under_plainId PySem.F.plain_proto_collect _];show aZ _ A.in1 (newList [] >>= λl=>again (.builtin "list.__iadd__" ⟨[l,.ref d],[]⟩)) _ _ sh;refine af (i_ (aC ⟨lJ sY _,uA PyProof.Rows.entry_list_iadd' ?_⟩));rw[bP.under_plainId sY _];show aZ _ A.in1 (cP (.ref sh.heap.objs.size) (.ref d) (.ref sh.heap.objs.size)) _ _ _;refine dh (W.kdl_extend (A:=A) (s:={sh with heap:=sh.heap.push {cls:=.type "list",data:=.seq ([]:List ak).toArray}})
  (R:=λ(g:Result) (s':au)=>∃(h':cB) (tk:Nat) (acc:Array ak) (c:Nat),g=.ok (.ret (.ref sh.heap.objs.size))/\s'={sh with heap:=h',toks:=tk}/\
   h'.get? sh.heap.objs.size=cz {cls:=.type "list",dict:=xn,data:=.seq acc c,slots:=#[]}/\Q acc.toList {sh with heap:=h',toks:=tk})
  (b7e (ep:=ep) h0) hh (hm.at λo e=>aF _ e) sh.heap.objs.size (jC hd) (jC hd) (.ref sh.heap.objs.size) 0 (bo _ rfl)
  (λh' tk acc c hk hS oW=>⟨h',tk,acc,c,rfl,rfl,hS,fin h' tk acc c hk hS oW⟩) hz) (λg s' x=>?_) λe s' x=>?_
 ·cases g with
  |done f=>
   obtain⟨h',tk,acc,c,e,rfl,hS,qq⟩:=x;cases e
   show aZ _ A (load sh.heap.objs.size >>= _) _ _ _;exact af (wpAny_load hS (aC qq))
  |again c₁=>
   refine⟨x.1,gH x.2 λg s₂ y=>?_⟩;obtain⟨h',tk,acc,c,rfl,rfl,hS,qq⟩:=y;show aZ _ A (load sh.heap.objs.size >>= _) _ _ _;exact af (wpAny_load hS (aC qq))
 ·obtain⟨_,_,_,_,e',_⟩:=x;cases e'
end
end VS
namespace VS
open PySem.Spec L2
open PyProof.Rows (KeyOrd)
def K0:List Int->List Int->Bool
 |[],[]=>yH
 |[],_::_=>yn
 |_::_,[]=>yH
 |a::x,b::y=>if a=b then K0 x y else decide (a<b)
theorem a1l:∀a,K0 a a=yH
 |[]=>rfl
 |a::x=>by rw[K0,aE rfl];exact a1l x
theorem U5:∀a b,K0 a b=yH->K0 b a=yH->a=b
 |[],[],_,_=>rfl
 |[],_::_,h,_=>by cases h
 |_::_,[],_,h=>by cases h
 |a::x,b::y,h1,h2=>by
  rw[K0]at h1 h2;by_cases c:a=b
  ·subst c;rw[aE rfl]at h1 h2;rw[U5 x y h1 h2]
  ·rw[aM c]at h1;rw[aM (λz=>c z.symm)]at h2;have:=jH h1;have:=jH h2;lia
theorem U6:∀a b c,K0 a b=yn->K0 b c=yn->K0 a c=yn
 |[],[],_,h,_=>by cases h
 |[],_::_,[],_,h=>by cases h
 |[],_::_,_::_,_,_=>rfl
 |_::_,[],_,h,_=>by cases h
 |_::_,_::_,[],_,h=>by cases h
 |a::x,b::y,c::z,h1,h2=>by
  rw[K0]at h1 h2 ⊢;by_cases e1:a=b
  ·subst e1;rw[aE rfl]at h1;by_cases e2:a=c
   ·rw[aE e2]at h2 ⊢;exact U6 x y z h1 h2
   ·rw[aM e2]at h2 ⊢;exact h2
  ·rw[aM e1]at h1;have q1:=bB h1;by_cases e2:b=c
   ·subst e2;rw[aM e1];exact h1
   ·rw[aM e2]at h2;have q2:=bB h2;rw[aM (by lia)];exact aL (by lia)
def b1V(h:K0 a b=yn):K0 b a=yH:=by
 cases c:K0 b a with
 |false=>rfl
 |true=>rw[<-a1l a,U6 _ _ _ h c]
def b4n(a b c:List Int)(h:K0 a c=yn):K0 a b=yn\/K0 b c=yn:=by
 cases h1:K0 a b with
 |true=>exact .inl rfl
 |false=>
  refine .inr ?_;cases h2:K0 b a with
  |true=>exact U6 _ _ _ h2 h
  |false=>rw[<-U5 a b h1 h2];exact h
def OI:KeyOrd:=⟨List Int,K0,a1l,U6,b4n,U5⟩
end VS
namespace VS
open PySem.Spec L2
def b1W(n:List Int):List (List Int)->List (List Int)
 |[]=>[n]
 |m::ms=>if K0 m n then m::b1W n ms else n::m::ms
def a8W:List (List Int)->List (List Int)
 |[]=>[]
 |n::ns=>b1W n (a8W ns)
def leL(a b:List Int):Prop:=K0 b a=yH
def b1X(h1:leL a b)(h2:leL b c):leL a c:=PyProof.Rows.KeyOrd.kle_trans (O:=OI) h1 h2
theorem a1P(n:List Int):∀ms,(b1W n ms).Perm (n::ms)
 |[]=>jR _
 |m::ms=>by
  unfold b1W;by_cases c:K0 m n=yn
  ·rw[aE c];exact ((a1P n ms).cons m).trans (List.Perm.swap n m ms)
  ·rw[aM c]
theorem a1Q:∀ns,(a8W ns).Perm ns
 |[]=>jR _
 |n::ns=>(a1P n (a8W ns)).trans ((a1Q ns).cons n)
theorem a2s(n:List Int):∀ms:List (List Int),ms.Pairwise leL->(b1W n ms).Pairwise leL
 |[],_=>dF ..
 |m::ms,h=>by
  unfold b1W;obtain⟨h1,h2⟩:=ik.mp h;by_cases c:K0 m n=yn
  ·rw[aE c];refine ik.mpr ⟨λx hx=>?_,a2s n ms h2⟩;rcases aG.mp ((a1P n ms).mem_iff.mp hx) with z|z
   ·rw[z];exact b1V c
   ·exact h1 x z
  ·rw[aM c];have Bw:leL n m:=by simpa[leL]using c
   refine ik.mpr ⟨λx hx=>?_,h⟩;rcases aG.mp hx with z|z
   ·rw[z];exact Bw
   ·exact b1X Bw (h1 x z)
theorem a2t:∀ns:List (List Int),(a8W ns).Pairwise leL
 |[]=>kl
 |n::ns=>a2s n _ (a2t ns)
def b1Y{a b:List (List Int)}(hp:a.Perm b)(ha:a.Pairwise leL):a=a8W b:=
 List.Perm.eq_of_pairwise (λx y _ _ h1 h2=>U5 _ _ h2 h1) ha (a2t b) (hp.trans (a1Q b).symm)
def kD(kt:Bool)(ns:List Int):D:=if kt then .tuple (ns.map .int) else .int (ns.headD 0)
def c0k(kt:Bool):D->Option (List Int)
 |.int n=>if kt then xn else cz [n]
 |.tuple ds=>if kt then intsOf ds else xn
 |_=>xn
def b0j(kt:Bool):List D->Option (List (List Int))
 |[]=>cz []
 |d::ds=>(c0k kt d).bind λns=>(b0j kt ds).bind λr=>cz (ns::r)
def b1Z(h:c0k kt d=cz ns):d=kD kt ns/\(kt=yH->ns.length=1):=by
 cases d with
 |int n=>
  cases kt with
  |true=>cases h
  |false=>cases h;exact⟨rfl,λ_=>rfl⟩
 |tuple ds=>
  cases kt with
  |false=>cases h
  |true=>
   have h':intsOf ds=cz ns:=h;cases K8 h'
   exact⟨rfl,λz=>by cases z⟩
 |_=>cases h
theorem a3M:∀{ds:List D} {nss:List (List Int)},b0j kt ds=cz nss->ds=nss.map (kD kt)/\(kt=yH->∀ns∈nss,ns.length=1)
 |[],nss,h=>by cases h;exact⟨rfl,λ_ _ z=>(nomatch z)⟩
 |d::ds,nss,h=>by
  obtain⟨ns,h1,h⟩:=bnd (show (c0k kt d).bind _=cz nss from h);obtain⟨r,h2,h3⟩:=bnd h;cases h3
  obtain⟨e1,e2⟩:=b1Z h1;obtain⟨e3,e4⟩:=a3M h2;refine⟨by rw[ay,<-e1,<-e3],λz x hx=>?_⟩;rcases aG.mp hx with y|y
  ·rw[y];exact e2 z
  ·exact e4 z x y
section
variable {X:Cx}{pins:List (aw×fV)}{U:L2.St}{H:Hp}{s:au}
def b7j{key:Nat->List Int}{p:Array Nat}(hp:AllN N p)(hu:b1S (O:=OI) key p N):(p.toList.map key).Pairwise leL:=by
 rw[rq];intro i j hi hj gZ;rw[aj,aT,hp.size]at hi hj;have z:=hu i j (fg gZ) hj;have e:∀k (hk:k<N),kyP (O:=OI) key p k=(p.toList.map key)[k]'(by rw[aj,aT,hp.size];exact hk):=λk hk=>by
  have uc:k<p.size:=by rw[hp.size];exact hk
  simp only[kyP,dC,bX]
  congr 1;simp[AL,uc]
 rw[e i hi,e j hj]at z;exact z
def a4L:∀{l:List α} {p:List Nat},p.Perm (aB l.length)->(p.map λi=>l.getD i d).Perm l:=by
 intro l p h;refine (h.map _).trans (List.Perm.of_eq ?_);refine kj λi=>?_
 rw[a_];by_cases c:i<l.length
 ·rw[fP c,qd,ag c,ah,ag c];rfl
 ·rw[lN (by simpa using c),lN (by simpa using c)];rfl
end
section
variable {X:Cx}{M:List Md}{a:Expr}{fa:EvE}{ca:Cat}{pos p:fS}
def c0l:D->Option (List D)
 |.dict kvs=>cz (kvs.map (·.1))
 |_=>xn
theorem a2u:∀{kvs:List (D×D)} {es:List (D×V×V)},DenKV K H es kvs->DenAll K H (es.map (·.2.1)) (kvs.map (·.1))
 |[],es,h=>by
  simp only[DenKV]at h;subst h;exact denAll_nil
 | (k,d)::r,es,h=>by
  simp only[DenKV]at h;obtain⟨e,q,rfl,h2,h3,h4,h5⟩:=h;exact denAll_cons h3 (a2u h5)
end
end VS
namespace VS
open PySem.Spec L2
section
variable {K:ae}{H:Hp}{F:List aw}{kt:Bool}{u:Ty}
def b4o(wX:a∈F)(o:HO):Same (cut H F) (cut (upd H a o) F):=λb o' hb=>by
 obtain⟨n1,n2⟩:=m8 hb;exact j7 n1 (by rw[c9 (show b≠a from λz=>n1 (z▸wX))];exact n2)
end
def b7k:∀{us:List α},us.length=1->∃a,us=[a]
 |[a],_=>⟨a,rfl⟩
def b7l:∀{us:List α},us.length=2->∃a b,us=[a,b]
 |[a,b],_=>⟨a,b,rfl⟩
def c0m:∀{us:List α},us.length=3->∃a b c,us=[a,b,c]
 |[a,b,c],_=>⟨a,b,c,rfl⟩
def c2e:∀{us:List α},us.length=4->∃a b c d,us=[a,b,c,d]
 |[a,b,c,d],_=>⟨a,b,c,d,rfl⟩
def c3D:∀{us:List α},us.length=5->∃a b c d e,us=[a,b,c,d,e]
 |[a,b,c,d,e],_=>⟨a,b,c,d,e,rfl⟩
def c3E:∀{us:List α},us.length=6->∃a b c d e f,us=[a,b,c,d,e,f]
 |[a,b,c,d,e,f],_=>⟨a,b,c,d,e,f,rfl⟩
end VS
namespace VS
open PySem.Spec L2
open PyProof.Rows (KeyOrd keyKind' keyLt' seqEpoch_at general' ksk_end ksk_tail)
open PySem.W (kat_snds)
section
variable {prog:bu}{w:bV}{A:bP}{E:ak->au->Prop}{sh:au}{vs ks:List ak}{κ:eY}{O:KeyOrd}{key:Nat->O.α}{R:cB->Prop}
structure SortableR (prog:bu) (w:bV) (A:bP) (R:cB->Prop) (ks:List ak) (κ:eY) (O:KeyOrd) (key:Nat->O.α):Prop where
 kind:2<=ks.length->∀(s:au) (E:ak->au->Prop) (Q:eY->au->Prop),R s.heap->Q κ s->aZ (aX prog w) A (keyKind' ks.toArray) Q E s
 lt:∀(s:au) (i j:Nat) (C:Bool->au->Prop),R s.heap->i<ks.length->j<ks.length->C (O.blt (key i) (key j)) s->aZ (aX prog w) A (keyLt' κ (ks.getD i bx) (ks.getD j bx)) C (λ_ _=>False) s
 cong:∀h,R h->∀i j,i<ks.length->j<ks.length->ks.getD i bx=ks.getD j bx->key i=key j
def a2v{a kS:aw}{e e1:Nat}{P:FI->au->Prop}{st:dg}{out:List ak}(zo:out.length<=bg)(ly:ks.length<=bg)(Aa:(ba st).map (·.2)=out.toArray)(hf:fN st=xn)(ho:sh.heap.get? a=cz (iH "list" #[] e1))(hk:sh.heap.get? kS=cz (iH "list" ks.toArray e))(jg:kS≠a)
  (q:P (.done (.ret .none)) {sh with heap:=(sh.heap.update kS (cu λ_=>(#[]:Array ak))).update a (cu λ_=>out.toArray)}) :
  aZ (aX prog w) A (ksk_tail a yH e1 (.ref kS) st) P E sh:=by
 have s1:=fC sh.heap kS (cu λ_=>(#[]:Array ak));have Ba:(sh.heap.update kS (cu λ_=>(#[]:Array ak))).get? a=cz (iH "list" #[] e1):=(s1.2 a jg.symm).trans ho;unfold ksk_tail
 try dsimp only
 rw[Aa];refine af (tG hk rfl ?_ (by rw[bt];exact ly) (cG _));refine af (su ?_);refine af (seqEpoch_at Ba rfl ?_);simp only[bz,du];refine af (tG Ba rfl ?_ (cG _) (by rw[bt];exact ox zo));rw[hf];simp only[bne_self_eq_false,bz,du];exact aC q
def a8X{a kS:aw}{e e1:Nat}{P:FI->au->Prop}(hl:ks.length=vs.length)(S:SortableR prog w A R ks κ O key)(hR:R sh.heap)(ho:sh.heap.get? a=cz (iH "list" #[] e1))(hk:sh.heap.get? kS=cz (iH "list" ks.toArray e))(jg:kS≠a)(rV:vs.length<65536)
  (q:∀p:Array Nat,AllN vs.length p->b1S key p vs.length->P (.done (.ret .none)) {sh with heap:=(sh.heap.update kS (cu λ_=>(#[]:Array ak))).update a (cu λ_=>(p.toList.map λi=>vs.getD i bx).toArray)}) :
  aZ (aX prog w) A (ksk_end a yH vs.toArray e1 (.ref kS) ks.toArray) P E sh:=by
 have ly:ks.length<=bg:=by rw[cY];lia
 have zo:∀p:Array Nat,AllN vs.length p->(p.toList.map λi=>vs.getD i bx).length<=bg:=λp hp=>by rw[aj,hp.length_eq,bE,cY];lia
 unfold ksk_end
 try dsimp only
 simp only[bz,du];by_cases h2:vs.toArray.size<2
 ·rw[aE h2,aE h2];refine af (aC ?_);rw[StateT.run_pure];refine af (aC ?_);have rK:vs.length<2:=by simpa using h2
  have e0:(List.toArray (aB vs.length)).toList.map (λi=>vs.getD i bx)=vs:=by
   match vs,rK with
   |[],_=>rfl
   |[v],_=>rfl
   |_::_::_,h=>simp at h;lia
  have ez:(ba (dg.mk' general' (ks.toArray.zip vs.toArray) #[] 7 xn)).map (·.2)=vs.toArray:=by
   show (ks.toArray.zip vs.toArray).map (·.2)=vs.toArray;simp[List.map_snd_zip,hl]
  dsimp only
  have q0:=q (List.toArray (aB vs.length)) (jR _) λi j a b=>by
   obtain rfl:i=j:=by lia
   exact eF _
  rw[e0]at q0;exact a2v (out:=vs) (by rw[cY];lia) ly ez rfl ho hk jg q0
 ·rw[aM h2,aM h2];have Gs:¬ vs.length<2:=by simpa using h2
  have rK:2<=vs.length:=by lia
  refine af (S.kind (by lia) sh _ _ hR ?_);refine af (dh (b7i (key:=key) hl (λi j C hi hj hC=>S.lt sh i j C hR (by lia) (by lia) hC) (S.cong _ hR)) ?_ λ_ _ e=>e);rintro⟨⟨⟩,cL⟩ s' ⟨rfl,p,Aa,hf,hp,hu⟩
  dsimp only
  exact a2v (zo p hp) ly (kat_snds hl Aa) hf ho hk jg (q p hp hu)
end
end VS
namespace VS
open PySem.Spec L2
open PyProof.Rows (listItems_at ksk_end ksk_rest ksk_fold)
section
variable {X:Cx}{pins:List (aw×fV)}{U:L2.St}{k:Nat}{f:aw}{fd:dU}{ps:List bA}{sp:Sp}
def b7m(F:FnOk X.prog X.w X.K X.mg X.base CX0 k f fd ps sp)(hr:Room k X.A.in1.in1)(hb:Binds X.K fd ps [])(I:Inv X pins U H s)(r:Vals vs us)(h:sp vs H Q E0) :
  aZ (aX X.prog X.w) X.A.in1.in1 (call (.ref f) us) (EP X pins U Q) (λ_ _=>False) s:=by
 have hl:us.length=ps.length:=by rw[<-r.length];exact F.len _ _ _ _ h
 have u_:=hb s us I.kIn (by rw[bj];exact hl);rw[bj]at u_;refine mz (gH (F.run X.A.in1.in1 X.stack s H ⟨us,[]⟩ us vs Q E0 hr I.env0.in1.in1 u_ r h) λr s' hq=>?_);cases r with
 |error e=>exact hq
 |ok fl=>
  cases fl with
  |ret u=>exact I.after hq
  |next=>exact cx hq
  |brk=>exact cx hq
  |cont=>exact cx hq
def SameX(a:aw)(H H':Hp):Prop:=∀b o,b≠a->H b=cz o->H' b=cz o
def SameX.refl(a:aw)(H:Hp):SameX a H H:=λ_ _ _ h=>h
theorem SameX.cut(h:SameX a H H'):Same (cut H [a]) (cut H' [a]):=λb o hb=>by
 obtain⟨n1,n2⟩:=m8 hb;exact j7 n1 (h b o (λz=>n1 (by rw[z];exact ar.mpr rfl)) n2)
def b7n{a kS:aw}{e1:Nat}{xs:List V}{us:List ak}{kd:Nat->D}{P:FI->au->Prop}{E:ak->au->Prop}{s:au}{H:Hp}(I:Inv X pins U H s)(rv:Vals xs us)(hk:H kS=cz (.lst []))(rV:us.length<65536)
  (turn:∀(i:Nat) (x:V) (u:ak),xs[i]?=cz x->us[i]?=cz u->∀(s':au) (H':Hp),Inv X pins U H' s'->SameX kS H H'->(∃kvs,H' kS=cz (.lst kvs))->aZ (aX X.prog X.w) X.A.in1.in1 (call (.ref f) [u]) (EP X pins U λv H2=>Same H' H2/\Den X.K (cut H2 [kS]) v (kd i)) (λ_ _=>False) s')
  (fin:∀(s':au) (H':Hp) (kvs:List V) (ks:List ak) (n:Nat),Inv X pins U H' s'->SameX kS H H'->H' kS=cz (.lst kvs)->Vals kvs ks->kvs.length=us.length->(∀i v,kvs[i]?=cz v->Den X.K (cut H' [kS]) v (kd i))->s'.heap.get? kS=cz (iH "list" ks.toArray n)->
   aZ (aX X.prog X.w) X.A.in1.in1 (ksk_end a yH us.toArray e1 (.ref kS) ks.toArray) P E s') :
  aZ (aX X.prog X.w) X.A.in1.in1 (ksk_rest a (.ref f) yH us.toArray e1 (.ref kS)) P E s:=by
 unfold ksk_rest;refine af (iJ ?_)
 first
  |rw[List.forIn_toArray]
  | (rw[<-jT];simp only[ym])
  |rw[<-jT]
 refine af (ksk_fold (λj s'=>∃(Hj:Hp) (kvs:List V),Inv X pins U Hj s'/\SameX kS H Hj/\Hj kS=cz (.lst kvs)/\kvs.length=j/\∀i v,kvs[i]?=cz v->Den X.K (cut Hj [kS]) v (kd i)) us 0 s
  ⟨H,[],I,SameX.refl _ _,hk,rfl,λi v h=>by simp at h⟩ ?step ?done)
 case step=>
  rintro j u s' hu ⟨Hj,kvs,I',sx,ly,hlen,kT⟩;simp only[iA]at hlen ⊢;have hj:j<us.length:=(aO.mp hu).1;obtain⟨x,hx⟩:∃x,xs[j]?=cz x:=⟨_,ag (by rw[rv.length];exact hj)⟩;refine af (jF (dh (turn j x u hx hu s' Hj I' sx ⟨kvs,ly⟩) (λkv rC he=>?_) λ_ _ hF=>hF.elim));obtain⟨v,H2,I2,r2,same,den⟩:=he
  try dsimp only
  have wu:H2 kS=cz (.lst kvs):=same _ _ ly;obtain⟨z,its,n,r,hl,e⟩:=I2.lstM wu;refine af (tG e rfl ?_ (by rw[bt,cY];lia) (cR (Nat.le_of_eq (Array.size_push ..)) (by rw[bt,cY];lia)));have I3:=I2.lset (t':=rC.toks) (f:=(·.push kv)) (its':=its++[kv]) (ys:=kvs++[v]) wu e (by simp) (r.append (.cons r2 .nil)) (by rw[az,bN,cY];lia);have c2:Same (cut H2 [kS]) (cut (upd H2 kS (.lst (kvs++[v]))) [kS]):=b4o (ar.mpr rfl) _;refine aC ⟨rfl,upd H2 kS (.lst (kvs++[v])),kvs++[v],I3,λb o hb ho=>?_,i6,by rw[az,hlen];rfl,λi w hw=>?_⟩
  ·rw[c9 hb];exact same _ _ (sx b o hb ho)
  ·rcases dD i kvs.length with c|c
   ·rw[dO c]at hw;exact (kT i w hw).up (((SameX.cut λb o _ h=>same _ _ h)).trans c2)
   ·rw[cQ c]at hw;have nu:i-kvs.length=0:=by
     have:=(aO.mp hw).1;simp at this;lia
    rw[nu]at hw;have e9:v=w:=by simpa using hw
    have e8:i=j:=by lia
    subst e9;subst e8;exact den.up c2
 case done=>
  rintro s' ⟨Hj,kvs,I',sx,ly,hlen,kT⟩;rw[iA]at hlen;obtain⟨z,its,n,r,hl,e⟩:=I'.lstM ly
  try dsimp only
  refine af (listItems_at e rfl ?_);exact fin s' Hj kvs its n I' sx ly r hlen kT e
end
end VS
namespace VS
open PySem.Spec L2
section
variable {X:Cx}{pins:List (aw×fV)}{U:L2.St}{H:Hp}{s:au}{a:aw}{o:HO}
def b2a(I:Inv X pins U H s)(hn:H a=xn)(ha:X.s₀.heap.objs.size<=a)(wW:a≠X.env.locals)(me:∀x c,X.env.cells.lookup x=cz c->c≠a)(rS:∀p∈X.pn++pins,p.1≠a)(new:ObjOk X.prog X.w (upd H a o) s.heap a o):Inv X pins U (upd H a o) s where
 ok:=I.ok
 os:=I.os
 bare:=I.bare
 base:=⟨I.base.keep,I.base.slot,λb u q n hx=>by rw[c9 (bI (bb (aS q) ha))];exact I.base.free b u q n hx,I.base.there,
  λb xs q=>by rw[c9 (j6 (I.base.tups b xs q) hn)];exact I.base.tups b xs q,
  λb u xs q=>by rw[c9 (j6 (I.base.frzs b u xs q) hn)];exact I.base.frzs b u xs q,
  λb ps q=>by
   obtain⟨more,e⟩:=I.base.tbls b ps q;exact⟨more,by rw[c9 (j6 e hn)];exact e⟩⟩
 loc:=I.loc
 cell:=I.cell
 free:=by rw[c9 (cV wW)];exact I.free
 freeC:=λx c e=>by rw[c9 (me x c e)];exact I.freeC x c e
 pin:=λp hp=>⟨(I.pin p hp).1,by rw[c9 (rS p hp)];exact (I.pin p hp).2.1,(I.pin p hp).2.2⟩
 hok:=λb u e=>by
  by_cases hb:b=a
  ·subst hb;rw[i6]at e;cases e;exact new
  ·rw[c9 hb]at e;exact (I.hok b u e).stay (λc v _ q=>q) (λc q=>by rw[c9 (j6 q hn)];exact q) λc xs q=>by rw[c9 (j6 q hn)];exact q
 len:=I.len
end
end VS
namespace VS
open PySem.Spec L2
open PyProof.Rows (KeyOrd listItems_at seqEpoch_at ksk_tree ksk_rest ksk_t1 ksk_s1 ksk_l1 kind_sorted plain_sorted entry_sorted slot_list_sort entry_list_sort call_function_entry_kw wpAny_call_entry_kw get?_update_seq)
section
variable {X:Cx}{pins:List (aw×fV)}{U:L2.St}{f:aw}{O:KeyOrd}{key:Nat->O.α}{κ:eY}{H:Hp}{s:au}
def a8Y{us:List ak}{xs:List V}{kd:Nat->D}(I:Inv X pins U H s)(hg:Gives X.prog X.w X.A.in1 s r us)(rv:Vals xs us)(rV:us.length<65536)
  (turn:∀(jZ:List (aw×fV)) (kS:aw) (i:Nat) (x:V) (u:ak),xs[i]?=cz x->us[i]?=cz u->∀(s':au) (H':Hp),Inv X jZ U H' s'->Same H H'->H kS=xn->(∃kvs,H' kS=cz (.lst kvs))->aZ (aX X.prog X.w) X.A.in1.in1 (call (.ref f) [u]) (EP X jZ U λv H2=>Same H' H2/\Den X.K (cut H2 [kS]) v (kd i)) (λ_ _=>False) s')
  (srt:∀(jZ:List (aw×fV)) (kS:aw) (s':au) (H':Hp) (kvs:List V) (ks:List ak),Inv X jZ U H' s'->Vals kvs ks->kvs.length=us.length->(∀i v,kvs[i]?=cz v->Den X.K (cut H' [kS]) v (kd i))->H' kS=cz (.lst kvs)->∃R:cB->Prop,SortableR X.prog X.w X.A.in1.in1 R ks κ O key/\R s'.heap)
  (fin:∀(p:Array Nat) (z:aw) (H':Hp),AllN us.length p->b1S key p us.length->Same H H'->H z=xn->H' z=xn->Q (.ref z) (upd H' z (.lst (p.toList.map λi=>xs.getD i .non)))) :
  aZ (aX X.prog X.w) X.A (call (.builtin "sorted") [r] [(cI "key",.ref f)]) (EP X pins U Q) X.xe s:=by
 have pE:xs.length=us.length:=rv.length;have uT:us.length<=bg:=by rw[cY];lia
 refine call_function_entry_kw kind_sorted plain_sorted entry_sorted (ksk_s1 _ _) ?_;unfold Builtin.«sorted»;refine af (m:=checkCount "sorted" 1 1 _) (aC ?_);refine af (hg _ _ λh1 tk k1 z1=>?_);refine af (wpAny_newList ?_ uT);have oL:(h1.push (iH "list" us.toArray 0)).get? h1.objs.size=cz (iH "list" us.toArray 0):=bo _ rfl;refine af (c_ (wpAny_call_entry_kw slot_list_sort ⟨_,oL,rfl⟩ entry_list_sort ?body (ksk_l1 _ _)))
 case body=>
  show aZ (aX X.prog X.w) X.A.in1.in1 (Builtin.«list.sort» ⟨[.ref h1.objs.size],[(cI "key",.ref f)]⟩) _ _ _;rw[ksk_t1];unfold ksk_tree;obtain⟨a,ea⟩:∃a,a=h1.objs.size:=⟨_,rfl⟩;rw[<-ea]at oL ⊢;have tI:s.heap.objs.size<=a:=by rw[ea];exact z1
  obtain⟨c1,o1⟩:∃c1,((h1.push (iH "list" us.toArray 0)).update a (cu λ_=>(#[]:Array ak))).get? a=cz (iH "list" #[] c1):=⟨_,get?_update_seq oL λ_=>#[]⟩;refine af (listItems_at oL rfl (af (tG oL rfl ?_ (by rw[bt];exact uT) (cG _))));refine af (seqEpoch_at o1 rfl (af (wpAny_newTuple ?_ uT)));refine af (wpAny_newList ?_ (cG _));refine c_ ?_;obtain⟨jX,Aw⟩:∃jX:cB,jX=((h1.push (iH "list" us.toArray 0)).update a (cu λ_=>(#[]:Array ak))).push (iH "tuple" us.toArray 0):=⟨_,rfl⟩;have Dh:∀b u,s.heap.get? b=cz u->jX.get? b=cz u:=λb u hb=>by
   rw[Aw];exact (((show Kept s.heap h1 from k1).push _).upd _ tI).push _ b u hb
  have o2:jX.get? a=cz (iH "list" #[] c1):=by rw[Aw];exact aF _ o1
  have xc:H a=xn:=I.hok.fresh tI;have wW:a≠X.env.locals:=jC (bb I.lt tI);have I2:Inv X pins U H {s with heap:=jX,toks:=tk}:=I.kept Dh;have FQ:Inv X ((a,iH "list" #[] c1)::pins) U H {s with heap:=jX,toks:=tk}:=I2.pins_of λp hp=>by
   rcases aG.mp hp with rfl|hp
   ·exact⟨o2,xc,wW,I.nofs tI,λv=>by intro z;cases z⟩
   ·exact I2.pin p (ai _ hp)
  have I3:=FQ.lnew (t':=tk) (its:=[]) (ys:=[]) .nil (cG _);have wm:H jX.objs.size=xn:=I2.fresh;show aZ (aX X.prog X.w) X.A.in1.in1 (ksk_rest a (.ref f) yH us.toArray c1 (.ref (cB.objs (cB.push ((h1.push (iH "list" us.toArray 0)).update a (cu λ_=>(#[]:Array ak))) (iH "tuple" us.toArray 0))).size)) _ _ _;rw[<-Aw];refine b7n (X:=X) (a:=a) (f:=f) (kd:=kd) (kS:=jX.objs.size) (H:=upd H jX.objs.size (.lst [])) I3 rv i6 rV (λi x u hx hu s' H' I' sx hk=>turn _ jX.objs.size i x u hx hu s' H' I' (λb o hb=>sx b o (j6 hb wm) (by rw[c9 (j6 hb wm)];exact hb)) wm hk) λs' H' kvs ks n I' sx ly rk hlen kT ek=>?_
  have pa:=I'.pin (a,iH "list" #[] c1) (ai _ aN);have jg:jX.objs.size≠a:=jC (aS o2);obtain⟨R,S,hR⟩:=srt _ jX.objs.size s' H' kvs ks I' rk hlen kT ly;refine a8X (sh:=s') (by rw[<-rk.length];exact hlen) S hR pa.1 ek jg rV λp hp hu=>⟨_,rfl,?_⟩
  have J1:=I'.lset (t':=s'.toks) (f:=λ_=>(#[]:Array ak)) (its':=[]) (ys:=[]) ly ek rfl .nil (cG _);have J2:Inv X pins U (upd H' jX.objs.size (.lst [])) {s' with heap:=s'.heap.update jX.objs.size (cu λ_=>(#[]:Array ak)),toks:=s'.toks}:=J1.pins_of λp hp=>J1.pin p (by rcases av.mp (ai X.pn hp) with z|z;exact ao _ z;exact ai _ (ax _ z))
  have xR:upd H' jX.objs.size (.lst []) a=xn:=by rw[c9 jg.symm];exact pa.2.1
  have xM:X.s₀.heap.objs.size<=a:=cR I.sz tI;have me:∀x c,X.env.cells.lookup x=cz c->c≠a:=λx c e z=>by
   obtain⟨v,hv⟩:=I.cell x c e;obtain⟨ob,zr,_⟩:=hv;have this:=aS zr;rw[z]at this;exact dA _ (bb this tI)
  have rS:∀p∈X.pn++pins,p.1≠a:=λp hp z=>by
   have this:=aS (I.pin p hp).1;rw[z]at this;exact dA _ (bb this tI)
  have oa:(s'.heap.update jX.objs.size (cu λ_=>(#[]:Array ak))).get? a=cz (iH "list" #[] c1):=((fC s'.heap jX.objs.size _).2 a jg.symm).trans pa.1;have J3:=J2.turned (it:=a) (t':=s'.toks) (h':=(s'.heap.update jX.objs.size (cu λ_=>(#[]:Array ak))).update a (cu λ_=>(p.toList.map λi=>us.getD i bx).toArray)) (λb o hb ho=>((fC (s'.heap.update jX.objs.size (cu λ_=>(#[]:Array ak))) a _).2 b hb).trans ho) xR wW (.inr xM) me rS;obtain⟨c3,o3⟩:∃c3,((s'.heap.update jX.objs.size (cu λ_=>(#[]:Array ak))).update a (cu λ_=>(p.toList.map λi=>us.getD i bx).toArray)).get? a=cz (iH "list" (p.toList.map λi=>us.getD i bx).toArray c3):=⟨_,get?_update_seq oa λ_=>_⟩;have gn:p.toList.length=us.length:=by rw[hp.length_eq,bE]
  have hv:Vals (p.toList.map λi=>xs.getD i .non) (p.toList.map λi=>us.getD i bx):=by
   refine a2Q (by rw[aj,aj]) λi x u g1 g2=>?_
   rw[a_]at g1 g2;obtain⟨j,j1,rfl⟩:=e_.mp g1;rw[j1]at g2;cases g2
   have hj:j<us.length:=bO.mp (hp.mem_iff.mp (bw j1));have wx:xs[j]?=cz (xs.getD j .non):=by rw[ag (by lia),ah,ag (by lia)];rfl
   obtain⟨u,hu,ru⟩:=rv.get wx;show RelV (xs.getD j .non) (us.getD j bx);rw[ah (l:=us),hu];exact ru
  have J4:=b2a (a:=a) (o:=.lst (p.toList.map λi=>xs.getD i .non)) J3 xR xM wW me rS ⟨by rw[aj,gn];exact uT,_,c3,hv,o3⟩;refine aC ⟨.ref a,rfl,.ref a,_,J4,rfl,fin p a _ hp hu (λb o hb=>?_) xc xR⟩;have z_:=j6 hb wm;rw[c9 z_];exact sx b o z_ (by rw[c9 z_];exact hb)
end
end VS
namespace VS
open PySem.Spec L2
open PySem.W (KatTups)
open PyProof.Rows (tuples')
def kdP(ns:List Int):D:=.tuple [.int ns.length,.tuple (ns.map .int)]
def sqD(l:Bool)(ns:List Int):D:=if l then .list (ns.map .int) else .tuple (ns.map .int)
def kdQ(l:Bool)(ns:List Int):D:=.tuple [.int ns.length,sqD l ns]
def b7o(l:Bool)(ns:List Int):D->Bool
 |.list ds=>l&&decide (intsOf ds=cz ns)
 |.tuple ds=>!l&&decide (intsOf ds=cz ns)
 |_=>yH
def c0n(l:Bool)(ns:List Int):Option D->Bool
 |some (.tuple [.int n,d])=>decide (n=ns.length)&&b7o l ns d
 |_=>yH
def b2b(h:b7o l ns d=yn):d=sqD l ns:=by
 cases d with
 |list ds=>
  have h':(l&&decide (intsOf ds=cz ns))=yn:=h;rw[aD]at h';rw[h'.1,K8 (bB h'.2)];rfl
 |tuple ds=>
  have h':(!l&&decide (intsOf ds=cz ns))=yn:=h;rw[aD,Bool.not_eq_true']at h';rw[h'.1,K8 (bB h'.2)];rfl
 |_=>cases h
def b2c:∀{o:Option D},c0n l ns o=yn->o=cz (kdQ l ns)
 |some (.tuple [.int n,d]),h=>by
  have h':(decide (n=ns.length)&&b7o l ns d)=yn:=h;rw[aD]at h';rw[bB h'.1,b2b h'.2];rfl
def b7p(l:Bool)(ns:List Int):c0n l ns (cz (kdQ l ns))=yn:=by
 show (decide ((ns.length:Int)=ns.length)&&b7o l ns (sqD l ns))=yn;rw[aL rfl,m_];cases l
 ·show (!false&&decide (intsOf (ns.map .int)=cz ns))=yn;rw[a0M,aL rfl];rfl
 ·show (yn&&decide (intsOf (ns.map .int)=cz ns))=yn;rw[a0M,aL rfl];rfl
def b2d(l:Bool)(m:List D->Option D)(nss:List (List Int)):Bool:=decide (nss.length<65536)&&nss.all λns=>c0n l ns (m [sqD l ns])
def b2e(h:b2d l m nss=yn):nss.length<65536/\∀ns∈nss,m [sqD l ns]=cz (kdQ l ns):=by
 unfold b2d at h;rw[aD,dN]at h;exact⟨bB h.1,λns hn=>b2c (h.2 ns hn)⟩
def b7q{nss:List (List Int)}(h:nss.length<65536)(hm:∀ns∈nss,m [sqD l ns]=cz (kdQ l ns)):b2d l m nss=yn:=by
 unfold b2d;rw[aD,dN];exact⟨aL h,λns hn=>by rw[hm ns hn];exact b7p l ns⟩
theorem eqI:∀xs ys:List Int,bT (xs.map aR) (ys.map aR)=decide (xs=ys)
 |[],[]=>by simp[bT]
 |[],_::_=>by simp[bT]
 |_::_,[]=>by simp[bT]
 |x::xs,y::ys=>by
  have:aI (.int x) (.int y)=decide (x=y):=by
   show (x==y)=decide (x=y);exact gz x y
  simp only[ay,bT,this,eqI xs ys,gk];by_cases h1:x=y<;>by_cases h2:xs=ys<;>simp[h1,h2]
theorem c0o:∀ns:List Int,bh (ns.map aR)=yn
 |[]=>by simp only[cW,bh]
 |n::ns=>by simp only[ay,bh,dm,c0o ns,eN]
theorem c2f:∀ns:List Int,cX (ns.map aR)=0
 |[]=>by simp only[cW,cX]
 |n::ns=>by simp only[ay,cX,eL,c2f ns];rfl
def a6u(r:Reads h v (kdQ l ns) as) :
  ∃(a:aw) (o:fV) (vs:Array ak) (m:Nat) (t:Tok) (u:ak) (bs:List aw),v=.ref a/\h.get? a=cz o/\o.cls=.type "tuple"/\o.data=.seq vs m/\vs.toList=[.int ns.length t,u]/\Reads h u (sqD l ns) bs:=by
 unfold kdQ at r;cases r with
 |@tuple a o vs m xs as ho hc hd rs=>
  generalize hv:vs.toList=l at rs;cases rs with
  |cons r1 rs=>
   cases rs with
   |cons r2 rs=>
    cases rs with
    |nil=>
     cases r1 with
     |int i t=>exact⟨a,o,vs,m,t,_,_,rfl,ho,hc,hd,hv,r2⟩
section
variable {prog:bu}{w:bV}{A:bP}
theorem b8x:∀{ks:List ak} {nss:List (List Int)},ks.length=nss.length->(∀i,i<ks.length->∃as,Reads h (ks.getD i bx) (kdQ l (nss.getD i [])) as)->∃fs,KatTups h ks fs/\fs.length=ks.length/\∀v∈fs,∃n t,v=jA n t
 |[],_,_,_=>⟨[],trivial,rfl,λ_ h=>(nomatch h)⟩
 |v::vs,[],hl,_=>by simp at hl
 |v::vs,ns::nss,hl,hv=>by
  obtain⟨fs,h1,h2,h3⟩:=b8x (ks:=vs) (nss:=nss) (by simpa using hl) λi hi=>by have:=hv (i+1) (by simpa using hi);simpa using this
  obtain⟨as,r⟩:=hv 0 (Nat.zero_lt_succ _);obtain⟨a,o,xs,m,t,u,bs,e,ho,hc,hd,hx,_⟩:=a6u (show Reads h v (kdQ l ns) as from r);have sD:xs[0]?=cz (jA ns.length t):=by rw[<-bU,hx];rfl
  refine⟨jA ns.length t::fs,⟨⟨a,o,xs,m,e,ho,hc,hd,sD⟩,h1⟩,by rw[aY,aY,h2],λy hy=>?_⟩;rcases aG.mp hy with z|z
  ·rw[z];exact⟨_,_,rfl⟩
  ·exact h3 y z
def b7r(h:kdQ l ms=kdQ l ns):ns=ms:=by
 have ii:∀{a b:List Int},a.map aR=b.map aR->b=a:=λ{a b} e=>((List.map_inj_right λx y e=>by cases e;rfl).mp e).symm
 unfold kdQ at h;have h2:=(so (so (dw.inj h)).2).1;cases l with
 |true=>exact ii (cF.inj h2)
 |false=>exact ii (dw.inj h2)
theorem a3N:∀a b,K0 a b=HT.lexLt a b
 |[],[]=>rfl
 |[],_::_=>rfl
 |_::_,[]=>rfl
 |_::x,_::y=>by rw[K0,HT.a3c,a3N x y]
theorem a3O:∀{ns:List Int} {vs:List ak} {as:List aw},jc h vs (ns.map aR) as->ml vs ns
 |[],_,_,r=>by cases r;exact .nil
 |n::ns,_,_,r=>by cases r with|cons r1 r2=>cases r1;exact .cons _ _ (a3O r2)
def b0k{h:cB}{v:ak}{ns:List Int}{as:List aw}(r:Reads h v (sqD yH ns) as):∃a its,v=.ref a/\PyProof.Rows.IsTup h a its/\ml its.toList ns:=by
 replace r:Reads h v (.tuple (ns.map .int)) as:=r
 cases r with
 |@tuple a o vs m xs as ho hc hd rs=>exact⟨a,vs,rfl,⟨o,ho,hc,m,hd⟩,a3O rs⟩
def a4M{ks:List ak}{nss:List (List Int)}(hl:ks.length=nss.length)(hu:A.units+8<dY) :
  SortableR prog w A (λh=>∀i,i<ks.length->∃as,Reads h (ks.getD i bx) (kdQ yH (nss.getD i [])) as) ks (tuples' yn) OI (λi=>(((nss.getD i []).length:Nat):Int)::nss.getD i []) where
 kind:=λh2 s E Q hR q=>by
  obtain⟨fs,h1,n_,h3⟩:=b8x hl hR;refine W.kat_kind (T:=fK "int") h1 (by lia) (λv Dw=>?_) rfl q;obtain⟨n,t,rfl⟩:=h3 v Dw;exact λA Q E s _ q=>aC q
 cong:=λh hR i j hi hj e=>by
  obtain⟨as,ri⟩:=hR i hi;obtain⟨bs,rj⟩:=hR j hj;rw[<-e]at rj;have z:=(PyProof.Rows.reads_det (λ_ _ e _=>e) ri rj).1;have:nss.getD i []=nss.getD j []:=b7r z;exact dH (λns:List Int=>(((ns.length:Nat):Int)::ns:List Int)) this
 lt:=λs i j C hR hi hj q=>by
  obtain⟨as,ri⟩:=hR i hi;obtain⟨bs,rj⟩:=hR j hj;obtain⟨a,o,xs,k,t,u,us,e1,ho,_,hd,hx,ru⟩:=a6u ri;obtain⟨a',o',ys,k',t',u',FV,e2,nV,_,ke,hy,yA⟩:=a6u rj;rw[e1,e2];refine W.kat_lt ho hd nV ke ?_;have q':C (K0 ((((nss.getD i []).length:Nat):Int)::nss.getD i []) ((((nss.getD j []).length:Nat):Int)::nss.getD j [])) s:=q;generalize nss.getD i []=ns at q' hx ru;generalize nss.getD j []=ms at q' hy yA;rw[hx,hy,dq,dq,nG];have hz:decide (xs.size<ys.size)=yH:=by
   have z1:=dH eh hx;have z2:=dH eh hy;rw[aT]at z1 z2;simp only[aY,gi]at z1 z2;exact aW (by lia)
  rw[hz];rw[K0]at q';refine W.kat_cons (wpAny_eqBool_int ?_);have lay:∀ns:List Int,(sqD yH ns).canLay0=yn:=λns=>by simp only[sqD,du,bz,dm];exact c0o ns
  have GN:(sqD yH ns).depth<=1:=by simp only[sqD,du,bz,eL,c2f];lia
  by_cases c:((ns.length:Nat):Int)=((ms.length:Nat):Int)
  ·rw[aE c]at q';rw[show (((ns.length:Nat):Int)==((ms.length:Nat):Int))=yn by simp[c]];refine W.kat_yes (W.kat_cons (se _ _ A s _ _ _ _ ru yA (lay ns) (lay ms) (by have:=lA (sqD yH ns).depth (sqD yH ms).depth;lia) _ _ _ _ ?_));have ee:aI (sqD yH ns) (sqD yH ms)=decide (ns=ms):=by simp only[sqD,du,bz,aI];exact eqI ns ms
   rw[ee];by_cases c2:ns=ms
   ·rw[aL c2];refine W.kat_yes (W.kat_nil ?_);rw[c2,a1l]at q';exact q'
   ·rw[aW c2];refine W.kat_no ?_;refine W.kat_one _ _ ?_;obtain⟨_,_,z1,p1,i1⟩:=b0k ru;obtain⟨_,_,z2,p2,i2⟩:=b0k yA;rw[z1,z2];exact HT.a8r p1 p2 i1 i2 (by lia) (by rw[<-a3N];exact q')
  ·rw[aM c]at q';rw[show (((ns.length:Nat):Int)==((ms.length:Nat):Int))=yH by simp[c]];exact W.kat_no (PyProof.Rows.oneLt_int q')
end
end VS
namespace VS
open PySem.Spec L2
def a1R(ns:List Int):List Int:=((ns.length:Nat):Int)::ns
def W5(nss:List (List Int)):List (List Int):=(a8W (nss.map a1R)).map tj
def b4p{nss:List (List Int)}(hp:AllN nss.length p)(hu:b1S (O:=OI) (λi=>(((nss.getD i []).length:Nat):Int)::nss.getD i []) p nss.length):p.toList.map (λi=>nss.getD i [])=W5 nss:=by
 unfold W5;have e:p.toList.map (λi=>(((nss.getD i []).length:Nat):Int)::nss.getD i [])=a8W (nss.map a1R):=by
  refine b1Y ?_ (b7j hp hu);have h:=(a4L (d:=([]:List Int)) (l:=nss) hp).map a1R;rw[bD]at h;exact h
 rw[<-e,bD];rfl
section
variable {X:Cx}{pins:List (aw×fV)}{U:L2.St}{H:Hp}{s:au}{k:Nat}{f:aw}{fd:dU}{ps:List bA}{m:List D->Option D}
def b2f{nss:List (List Int)}(F:FnOk X.prog X.w X.K X.mg X.base CX0 k f fd ps (spD X.K 1 m .i))(hr:Room k X.A.in1.in1)(hb:Binds X.K fd ps [])(I:Inv X pins U H s)(hg:Gives X.prog X.w X.A.in1 s r us)(rv:Vals xs us)(hd:DenAll X.K H xs (nss.map λns=>.tuple (ns.map .int)))
  (rV:nss.length<65536) (hm:∀ns∈nss,m [.tuple (ns.map .int)]=cz (kdP ns)) (q:∀z out H',Same H H'->H z=xn->H' z=xn->DenAll X.K H' out ((W5 nss).map λns=>.tuple (ns.map .int))->Q (.ref z) (upd H' z (.lst out))) :
  aZ (aX X.prog X.w) X.A (call (.builtin "sorted") [r] [(cI "key",.ref f)]) (EP X pins U Q) X.xe s:=by
 have pE:xs.length=nss.length:=by rw[hd.length,aj]
 have Bm:us.length=nss.length:=by rw[<-rv.length];exact pE
 have sO:∀i x,xs[i]?=cz x->i<nss.length/\Den X.K H x (.tuple ((nss.getD i []).map .int)):=λi x hx=>by
  have hi:i<nss.length:=by rw[<-pE];exact (aO.mp hx).1
  have e1:(nss.map λns=>dw (ns.map .int))[i]?=cz (.tuple ((nss.getD i []).map .int)):=by rw[a_,ag hi,ah,ag hi];rfl
  obtain⟨v,hv,dv⟩:=hd.get e1;rw[hx]at hv;cases hv
  exact⟨hi,dv⟩
 have iK:∀i,i<nss.length->nss.getD i []∈nss:=λi hi=>by rw[ah,ag hi];exact dB hi
 have zJ:∀ns:List Int,imm (kdP ns)=yn:=λns=>by unfold kdP;simp only[imm,g6,gu,m_];exact c0j ns
 have wj:∀ns:List Int,(kdP ns).canLay0=yn:=λns=>by unfold kdP;simp only[dm,bh,gu,m_];exact c0o ns
 refine a8Y (f:=f) (O:=OI) (κ:=PyProof.Rows.tuples' yn) (key:=λi=>(((nss.getD i []).length:Nat):Int)::nss.getD i []) (kd:=λi=>kdP (nss.getD i [])) I hg rv (by lia) (λjZ kS i x u hx hu s' H' I' same _ hk=>?_) (λjZ kS s' H' kvs ks I' rk hlen kT ly=>?_) λp z H' hp hu same hz sC=>?_
 ·obtain⟨hi,dx⟩:=sO i x hx;obtain⟨u',sF,ru⟩:=rv.get hx;rw[hu]at sF;cases sF
  refine b7m F hr hb I' (.cons ru .nil) ⟨[.tuple ((nss.getD i []).map .int)],kdP (nss.getD i []),rfl,denAll_cons (dx.up same) denAll_nil,hm _ (iK i hi),λv H2 fp e o nd fr=>⟨e,(o.den _).imm_out (F:=[kS]) (λb hb=>by obtain⟨kvs,hk⟩:=hk;rw[ar.mp hb];exact⟨⟨.lst kvs,trivial⟩,e _ _ hk⟩) _ (zJ _)⟩⟩
 ·have Ec:ks.length=nss.length:=by rw[<-rk.length,hlen];exact Bm
  refine⟨_,a4M (nss:=nss) Ec (by have:=hr.un;lia),λi hi=>?_⟩;obtain⟨v,hv⟩:∃v,kvs[i]?=cz v:=⟨_,ag (by rw[rk.length];exact hi)⟩;obtain⟨u,hu,ru⟩:=rk.get hv;rw[ah,hu];exact Den.reads I' _ (wj _) ((kT i v hv).up k7) ru
 ·rw[Bm]at hp hu;refine q z _ H' same hz sC ?_;rw[<-b4p hp hu,bD];have:∀l:List Nat,(∀j∈l,j<nss.length)->DenAll X.K H' (l.map λi=>xs.getD i .non) (l.map ((λns=>dw (ns.map .int)) ∘ λi=>nss.getD i [])):=by
   intro l
   induction l with
   |nil=>intro _;exact denAll_nil
   |cons j l ih=>
    intro hj;have rM:=hj j aN;have wx:xs[j]?=cz (xs.getD j .non):=by rw[ag (by lia),ah,ag (by lia)];rfl
    exact denAll_cons ((sO j _ wx).2.up same) (ih λk hk=>hj k (ax _ hk))
  exact this _ λj hj=>bO.mp (hp.mem_iff.mp hj)
def a8Z{nss:List (List Int)}(hc:X.calm=yn)(F:FnOk X.prog X.w X.K X.mg X.base CX0 k f fd ps (spD X.K 1 m .i))(hr:Room k X.A.in1.in1)(hb:Binds X.K fd ps [])(I:Inv X pins U H s)(hH:H p=cz (i9 p es))(hd:DenAll X.K H (es.map (·.2.1)) (nss.map λns=>.tuple (ns.map .int)))
  (rV:nss.length<65536) (hm:∀ns∈nss,m [.tuple (ns.map .int)]=cz (kdP ns)) (q:∀z out H',Same H H'->H z=xn->H' z=xn->DenAll X.K H' out ((W5 nss).map λns=>.tuple (ns.map .int))->Q (.ref z) (upd H' z (.lst out))) :
  aZ (aX X.prog X.w) X.A (call (.builtin "sorted") [.ref p] [(cI "key",.ref f)]) (EP X pins U Q) X.xe s:=by
 obtain⟨h0,hl,hn,o,ents,ep,g1,g2,g3,g4⟩:=y8 I hH;refine b2f F hr hb I (a8V (by simpa using I.ok.hd hc) h0 ⟨o,g1,g2,g3⟩ (by have z:=gO g4;have z2:ents.toList.length=ents.size:=aT;lia)) ?_ hd rV hm q;have:∀{es:List (D×V×V)} {l:List iP},gg a0v es l->Vals (es.map (·.2.1)) (l.map (·.key)):=by
  intro es l h
  induction h with
  |nil=>exact .nil
  |cons r _ ih=>exact .cons r.2.1 ih
 exact this g4
end
def a9a(ns:List Int):D:=.tuple (ns.map .int)
def a0Q(m:List D->Option D)(a:EvE):EvE:=λZ=>(a Z).bind λd=>(c0l d).bind λks=>(b0j yn ks).bind λnss=>if b2d yH m nss then cz (.list ((W5 nss).map a9a)) else xn
section
variable {X:Cx}{M:List Md}{a:Expr}{fa:EvE}{ca:Cat}{pos p py lK:fS}{y:bA}{k:Nat}{ps:List bA}{m:List D->Option D}{ta:TE}
def c0p(X:Cx)(m:List D->Option D)(ta:TE):TE:=λU H Q=>a6S ta b3c U H λxs H1=>∃pd es nss,xs=[V.ref pd]/\H1 pd=cz (i9 pd es)/\DenAll X.K H1 (es.map (·.2.1)) (nss.map a9a)/\nss.length<65536/\(∀ns∈nss,m [a9a ns]=cz (kdP ns))/\∀z out H',Same H1 H'->H1 z=xn->H' z=xn->DenAll X.K H' out ((W5 nss).map a9a)->Q (.ref z) (upd H' z (.lst out))
def b4q(hc:X.calm=yn)(zx:X.mg "sorted"=xn)(W:Has X.prog X.w X.K X.mg X.base y k ps (spD X.K 1 m .i))(hr:Room (k+2) X.A)(ha:PE X a ta)(hg:Gl X "sorted":=by rfl)(rO:Gl X y:=by rfl)(rP:(y==("__debug__":bA))=yH:=by decide)
  (he:aq [a] X.env=(yH,cD a X.env)::aq [] X.env:=by rfl) (nX:cy pos (aq [a] X.env)=(yH,cD a X.env)::cy pos (aq [] X.env):=by rfl) (eG:(cy pos (aq [a] X.env)).any (·.1)=yH:=by rfl)
  (jk:(eX pos (dt [⟨cz (cI "key"),.Name y py,lK⟩] X.env)).all (·.1.isSome)=yn:=by rfl) (zF:(eX pos (dt [⟨cz (cI "key"),.Name y py,lK⟩] X.env)).any (·.1.isNone)=yH:=by rfl)
  (ly:(eX pos (dt [⟨cz (cI "key"),.Name y py,lK⟩] X.env)).filterMap (·.1)=[cI "key"]:=by rfl) :
  PE X (.Call (.Name "sorted" p) [a] [⟨cz (cI "key"),.Name y py,lK⟩] pos) (c0p X m ta):=by
 obtain⟨f,fd,F,b,kp,DR⟩:=W.ex;intro pins s U H Q I h;refine fH (a0G I hg zx PyProof.Rows.Boot.«sorted» ?_ (by decide) (by decide));have hA:PA X [a] (a6S ta b3c):=l6 ha o9 he;have hK:PK X [⟨cz (cI "key"),.Name y py,lK⟩] (a6S (tC (.ref f)) b3c):=b6m (a5P rO DR rfl rP) b9i;refine PyProof.Rows.callWith_kw (L2.thn (hA pos pins s U H _ I h) λus s1 qz=>?_) nX eG jk zF;obtain⟨xs,H1,I1,r1,pd,es,nss,e0,hH,hd,rV,hm,q⟩:=qz;subst e0;refine L2.thn (hK pos pins s1 U H1 (λzs H2=>zs=[.ref f]/\H2=H1) I1 ⟨rfl,rfl⟩) λws s2 qz=>?_
 obtain⟨zs,H2,I2,r2,ez,eH⟩:=qz;subst ez;subst eH;rw[ly];obtain⟨u,rfl,ru⟩:=r1.one;obtain⟨w,rfl,vw⟩:=r2.one;cases (show u=bL pd from ru)
 cases (show w=bL f from vw)
 exact a8Z hc F hr.in1.in1 b I2 hH hd rV hm q
def a7G(hc:X.calm=yn)(zx:X.mg "sorted"=xn)(W:Has X.prog X.w X.K X.mg X.base y k ps (spD X.K 1 m .i))(hr:Room (k+2) X.A)(ha:PX X M a fa ca)(hg:Gl X "sorted":=by rfl)(rO:Gl X y:=by rfl)(rP:(y==("__debug__":bA))=yH:=by decide)
  (he:aq [a] X.env=(yH,cD a X.env)::aq [] X.env:=by rfl) (nX:cy pos (aq [a] X.env)=(yH,cD a X.env)::cy pos (aq [] X.env):=by rfl) (eG:(cy pos (aq [a] X.env)).any (·.1)=yH:=by rfl)
  (jk:(eX pos (dt [⟨cz (cI "key"),.Name y py,lK⟩] X.env)).all (·.1.isSome)=yn:=by rfl) (zF:(eX pos (dt [⟨cz (cI "key"),.Name y py,lK⟩] X.env)).any (·.1.isNone)=yH:=by rfl)
  (ly:(eX pos (dt [⟨cz (cI "key"),.Name y py,lK⟩] X.env)).filterMap (·.1)=[cI "key"]:=by rfl) :
  PX X M (.Call (.Name "sorted" p) [a] [⟨cz (cI "key"),.Name y py,lK⟩] pos) (a0Q m fa) (.new (.l .i)):=by
 obtain⟨ta,pa,qa⟩:=ha.out;refine .mk ⟨_,b4q hc zx W hr pa hg rO rP he nX eG jk zF ly,λZ U H P F d Q S hf q=>?_⟩;obtain⟨x,h1,g1⟩:=bnd hf;obtain⟨ks,h2,g2⟩:=bnd g1;obtain⟨nss,h3,g3⟩:=bnd g2;obtain⟨e1,_⟩:=a3M h3;by_cases c:b2d yH m nss=yn
 ·rw[aE c]at g3;have c:nss.length<65536/\∀ns∈nss,m [a9a ns]=cz (kdP ns):=b2e c;cases g3
  cases x with
  |dict kvs=>
   cases h2
   refine qa Z U H P F _ _ S h1 λv H1 w1 r1=>?_
   obtain⟨pp,es,rfl,k1,k2⟩:=r1.den.dict_inv;refine⟨pp,es,nss,rfl,k1,?_,c.1,c.2,λz out H' same hz sC ho=>q _ _ ((w1.trans same).trans (l9 sC _)) ?_⟩
   ·have hk:=a2u k2;rw[e1]at hk;exact hk
   ·have hi:∀l:List (List Int),g6 (l.map a9a)=yn:=λl=>by
     induction l with
     |nil=>simp only[cW,g6]
     |cons ns l ih=>simp only[ay,g6,ih,gu,a9a,imm];exact c0j ns
    exact a0f ho (hi _) (w1.trans same) sC (S.lst' (w1.trans same))
  |_=>cases h2
 ·rw[aM c]at g3;cases g3
end
section
variable {X:Cx}{M:List Md}{a b:Expr}{rest:List Expr}{fa fb:EvE}{u:Ty}{pos:fS}{ta tb:TE}
def c0q(ha:PE X a ta)(hb:PE X (.BoolOp .Or (b::rest) pos) tb):PE X (.BoolOp .Or (a::b::rest) pos) (λU H Q=>ta U H λx H1=>∃k,b6j X.K x H1 k/\if k=yn then Q x H1 else tb U H1 Q):=by
 intro pins s U H Q I h;refine PyProof.Rows.BoolOp_or (L2.thn (ha pins s U H _ I h) λv s1 qz=>?_);obtain⟨x,H1,I1,r1,k,hk,q1⟩:=qz;refine L2.thn (b3a pins s1 U H1 x v (λc H2=>c=k/\H2=H1) I1 r1 ⟨k,hk,rfl,rfl⟩) λc s2 ⟨H2,I2,ec,eH⟩=>?_
 subst ec;subst eH;cases c with
 |true=>exact⟨x,H2,I2,r1,q1⟩
 |false=>exact hb pins s2 U H2 Q I2 q1
def b7s(fa fb:EvE):EvE:=λZ=>(fa Z).bind λd=>(tr d).bind λk=>if k then cz d else fb Z
def c0r(ha:PX X M a fa (.new u))(hb:PX X M (.BoolOp .Or (b::rest) pos) fb (.new u)):PX X M (.BoolOp .Or (a::b::rest) pos) (b7s fa fb) (.new u):=by
 obtain⟨ta,pa,qa⟩:=ha.out;obtain⟨tb,pb,qb⟩:=hb.out;refine .mk ⟨_,c0q pa pb,λZ U H P F d Q S hf q=>?_⟩;obtain⟨x,h1,hf⟩:=bnd hf;obtain⟨k,h2,hf⟩:=bnd hf;refine qa Z U H P F _ _ S h1 λv H1 e1 r1=>⟨k,b3r r1.den h2,?_⟩
 cases k with
 |true=>
  have mU:d=x:=(aK hf).symm;subst mU;exact a3f (q _ H1 e1 r1)
 |false=>exact a4E (qb Z U H1 P F d Q (S.grow e1) hf λw H2 e2 r2=>q w H2 (e1.trans e2) (r2.early e1))
end
def a7H(F:List aw)(H H2:Hp):Hp:=λa=>if a∈F then H a else H2 a
def a1m(h:a∈F):a7H F H H2 a=H a:=aE h
def p8(h:a∉F):a7H F H H2 a=H2 a:=aM h
def c0s(sp:Sp):Sp:=λvs H Q E=>∃F:List aw,(∀a∈F,∃ys:MuO,H a=cz ys.1)/\sp vs (cut H F) (λv H2=>(∀a∈F,H2 a=xn)->Q v (a7H F H H2)) E
section
variable {P:bu}{w:bV}{K:ae}{mg:bA->Option ak}{base:cB}{k:Nat}{f:aw}{fd:dU}{ps:List bA}{sp:Sp}{H:Hp}{h:cB}{F:List aw}
def a1S(hF:∀a∈F,∃ys:MuO,H a=cz ys.1)(e:H b=cz o)(n:¬ Mu o):b∉F:=λz=>by
 obtain⟨ys,hy⟩:=hF b z;rw[e]at hy;cases hy
 exact n ys.2
def c0t(h:Pin a o):¬ Mu o:=by cases o<;>first|exact λz=>z|exact λ_=>h
def b7t(hk:HOk P w H h)(hF:∀a∈F,∃ys:MuO,H a=cz ys.1):HOk P w (cut H F) h:=λa o e=>by
 obtain⟨_,e'⟩:=m8 e;exact (hk a o e').stay (λb u _ q=>q) (λb q=>j7 (a1S hF q (λz=>z)) q) λb xs q=>j7 (a1S hF q (c0t xs.2)) q
def y9(n:H a=xn):cut H F a=xn:=by
 by_cases q:a∈F
 ·exact X1 q
 ·rw[a0d q];exact n
def a9b(F0:FnOk P w K mg base CX0 k f fd ps sp):FnOk P w K mg base CX0 k f fd ps (c0s sp) where
 len:=λvs H Q E ⟨F,_,hs⟩=>F0.len _ _ _ _ hs
 run:=λA outer s H args us vs Q E hr he hb hv ⟨F,hF,hs⟩=>by
  have lU:Env0 P w K mg base A outer s (cut H F):=⟨he.frames,he.mod,λb o e=>⟨(he.bs b o e).1,y9 (he.bs b o e).2⟩,he.bsz,he.funs,λb hb=>y9 (he.frf b hb),b7t he.hok hF,he.bare,λx hx p e=>let⟨qs,t,e1,e2⟩:=he.tabs x hx p e;⟨qs,t,j7 (a1S hF e1 (λz=>z)) e1,e2⟩⟩;refine gH (F0.run A outer s (cut H F) args us vs _ E hr lU hb hv hs) λr s' hq=>?_
  cases r with
  |error e=>exact hq
  |ok fl=>
   cases fl with
   |ret u=>
    obtain⟨v,H2,os,bare,un,pU,rv,q⟩:=(show CE outer P w (cut H F) s _ u s' from hq);have there:∀a∈F,∃o,s.heap.get? a=cz o:=λa ha=>by
     obtain⟨⟨ys,hm⟩,hy⟩:=hF a ha;have:=he.hok a _ hy;cases ys with
     |lst xs=>obtain⟨_,its,n,r,e⟩:=this;exact⟨_,e⟩
     |dK kvs=>obtain⟨_,_,vs,_,ob,es,ep,e,_⟩:=this;exact⟨_,e⟩
     |ext φ=>obtain⟨_,e,_⟩:=this;exact e
     |_=>exact cx hm
    have BV:∀a∈F,H2 a=xn:=λa ha=>by
     obtain⟨o,ho⟩:=there a ha;exact un.free a o ho (X1 ha) (by simp)
    have DN:∀{b:aw},H b=xn->b∉F:=λ{b} n z=>by
     obtain⟨ys,hy⟩:=hF b z;rw[n]at hy;cases hy
    refine (show CE outer P w H s Q u s' from⟨v,a7H F H H2,os,bare,?_,?_,rv,q BV⟩)
    ·refine⟨λb o q n hb hx=>un.keep b o q (y9 n) hb hx,λb o q n hb hx=>un.slot b o q (y9 n) hb hx,λb o q n hx=>?_,un.there,λb xs q=>?_,λb o u q=>?_,λb ps q=>?_⟩
     ·rw[p8 (DN n)];exact un.free b o q (y9 n) hx
     ·have n:=a1S hF q (λz=>z);rw[p8 n];exact un.tups b xs (j7 n q)
     ·have n:=a1S hF q (λz=>z);rw[p8 n];exact un.frzs b o u (j7 n q)
     ·have n:=a1S hF q (λz=>z);rw[p8 n];exact un.tbls b ps (j7 n q)
    ·intro a o e;by_cases ha:a∈F
     ·rw[a1m ha]at e;have hk:∀u,s.heap.get? a=cz u->s'.heap.get? a=cz u:=λu q=>un.keep a u q (X1 ha) (λz=>by rw[he.frf a z]at e;cases e) (by simp)
      obtain⟨⟨ys,hm⟩,hy⟩:=hF a ha;have ho:=he.hok a _ hy;have eo:o=ys:=aK (e.symm.trans hy);rw[eo];cases ys with
      |lst xs=>obtain⟨z,its,n,r,e⟩:=ho;exact⟨z,its,n,r,hk _ e⟩
      |dK kvs=>obtain⟨z,y,vs,r,ob,es,ep,e,c⟩:=ho;exact⟨z,y,vs,r,ob,es,ep,hk _ e,c⟩
      |ext φ=>obtain⟨h1,⟨ob,h2⟩,h3⟩:=ho;exact⟨h3 _ _ h1 hk,⟨ob,hk _ h2⟩,h3⟩
      |_=>exact cx hm
     ·rw[p8 ha]at e;have ma:∀{b:aw} {o:HO},H2 b=cz o->a7H F H H2 b=cz o:=λ{b} {o} q=>by
       rw[p8 (λz=>by rw[BV b z]at q;cases q)];exact q
      exact (pU a o e).stay (λb u _ q=>q) (λb q=>ma q) λb xs q=>ma q
   |next=>exact cx hq
   |brk=>exact cx hq
   |cont=>exact cx hq
end
section
variable {X:Cx}{M:List Md}{a e0:Expr}{es:List Expr}{fa:EvE}{f:EvA}{ca:Cat}{u:Ty}{x:bA}{p pos:fS}
def b2g(W:Has X.prog X.w X.K X.mg X.base x k ps sp):Has X.prog X.w X.K X.mg X.base x k ps (c0s sp):=by
 obtain⟨f,fd,F,b⟩:=W.ex;exact⟨f,fd,a9b F,b⟩
def PAF(X:Cx)(M:List Md)(es:List Expr)(f:EvA):Prop:=
 ∃t,PA X es t/\∀(Z:List D) (U:L2.St) (H P:Hp) (F:List aw) (ds:List D) (Q:List V->Hp->Prop),StE X.K M Z U H P F->f Z=cz ds->(∀vs H',Same H H'->DenAll X.K (cut H' F) vs ds->Q vs H')->t U H Q
def a6v:PAF X M [] b9:=⟨_,o9,λZ U H P F ds Q S hf q=>by cases hf;exact q [] H (Same.refl _) denAll_nil⟩
def Y4(ha:PX X M a fa ca)(hr:PAF X M es fr)(hc:frozen ca:=by trivial)(hs:aq (a::es) X.env=(yH,cD a X.env)::aq es X.env:=by rfl):PAF X M (a::es) (a7 fa fr):=by
 obtain⟨ta,pa,qa⟩:=ha.out;obtain⟨tr,pr,qr⟩:=hr;refine⟨_,l6 pa pr hs,λZ U H P F ds Q S hf q=>?_⟩;obtain⟨x,h1,hf⟩:=bnd hf;obtain⟨xs,h2,hf⟩:=bnd hf;cases hf
 exact qa Z U H P F _ _ S h1 λv H1 e1 r1=>qr Z U H1 P F _ _ (S.grow e1) h2 λvs H2 e2 r2=>q (v::vs) H2 (e1.trans e2) (denAll_cons ((a0i hc r1).up (O1 e2)) r2)
def a3P(W:Has X.prog X.w X.K X.mg X.base x k ps (spD X.K n m u))(hr:Room k X.A)(h:PAF X M (e0::es) f)(hl:(e0::es).length=n:=by rfl)(hfl:∀Z ds,f Z=cz ds->ds.length=(e0::es).length)
  (hg:Gl X x:=by rfl) (lM:(x==("__debug__":bA))=yH:=by decide) (he:aq (e0::es) X.env=(yH,cD e0 X.env)::aq es X.env:=by rfl) (gn:(cy pos (aq es X.env)).any (·.1)=yH:=by rfl) :
  PX X M (.Call (.Name x p) (e0::es) [] pos) (eCl m f) (.new u):=by
 obtain⟨t,pa,qa⟩:=h;refine .mk ⟨_,a8t (b2g W) hr pa hg lM he gn,λZ U H P F d Q S hf q=>?_⟩;obtain⟨ds,h1,hf⟩:=bnd hf;refine qa Z U H P F ds _ S h1 λvs H1 e1 r1=>?_
 show c0s (spD X.K n m u) (vs++[]) H1 Q E0;rw[bj];refine⟨F,S.lst' e1,ds,d,by rw[r1.length,hfl Z ds h1,hl],r1,hf,λv H2 fp e o nd fr hz=>q v (a7H F H1 H2) ?_ ?_⟩
 ·intro b o' hb;have wQ:=e1 b o' hb;by_cases c:b∈F
  ·rw[a1m c];exact wQ
  ·rw[p8 c];exact e b o' (j7 c wQ)
 ·have BE:∀a∈fp,a∉F:=λa ha z=>by
   obtain⟨ys,hy⟩:=o.lst u a ha;rw[hz a z]at hy;cases hy
  refine⟨fp,Own.frame (λb o' hb=>?_) u o (λa ha=>p8 (BE a ha)),nd,λa ha=>?_⟩
  ·obtain⟨n1,n2⟩:=m8 hb;have n3:b∉F:=λz=>by rw[hz b z]at n2;cases n2
   exact j7 (λz=>(av.mp z).elim n1 n3) (by rw[p8 n3];exact n2)
  ·have:=fr a ha;rw[a0d (BE a ha)]at this;exact e1.free this
end
def Junk(H:Hp)(C:List aw):Prop:=∀a∈C,∀u,H a=cz u->∃o,u=.frz o (.own a)
section
variable {K:ae}{H H':Hp}{C F:List aw}
theorem Junk.cut(h:Junk H C):Junk (cut H F) C:=λa ha u e=>h a ha u (m8 e).2
def Junk.out(h:Junk H C)(e:H a=cz u)(n:∀o,u≠.frz o (.own a)):a∉C:=λz=>by
 obtain⟨o,q⟩:=h a z u e;exact n o q
def b4r(h:Junk H C)(q:SqX K H a xs):SqX K (VS.cut H C) a xs:=by
 rcases q with (q|⟨o,q⟩)|q
 ·exact .inl (.inl (j7 (h.out q λo z=>(nomatch z)) q))
 ·exact .inl (.inr ⟨o,j7 (h.out q λo z=>by cases z) q⟩)
 ·exact .inr q
def b4s(h:Junk H C)(q:SqT K H a xs):SqT K (VS.cut H C) a xs:=by
 rcases q with (q|⟨o,q⟩)|q
 ·exact .inl (.inl (j7 (h.out q λo z=>(nomatch z)) q))
 ·exact .inl (.inr ⟨o,j7 (h.out q λo z=>by cases z) q⟩)
 ·exact .inr q
def a3Q(h:Junk H C)(q:H a=cz (i9 a es)):VS.cut H C a=cz (i9 a es):=
 j7 (h.out q λo z=>by unfold i9 at z;cases z) q
mutual
theorem Den.junk(h:Junk H C):∀(d:br) {v:V},Den K H v d->Den K (VS.cut H C) v d
 |.none,_,q=>by simpa only [Den]using q
 |.bool _,_,q=>by simpa only [Den]using q
 |.int _,_,q=>by simpa only [Den]using q
 |.str _,_,q=>by simpa only [Den]using q
 |.list ds,_,q=>by
  obtain⟨a,xs,rfl,h1,h2⟩:=q.list_inv;exact den_list (b4r h h1) (DenAll.junk h ds h2)
 |.tuple ds,_,q=>by
  obtain⟨a,xs,rfl,h1,h2⟩:=q.tup_inv;exact den_tup (b4s h h1) (DenAll.junk h ds h2)
 |.dict kvs,_,q=>by
  obtain⟨a,es,rfl,h1,h2⟩:=q.dict_inv;simp only[Den];exact⟨a,es,rfl,a3Q h h1,DenKV.junk h kvs h2⟩
theorem DenAll.junk(h:Junk H C):∀(ds:List br) {xs:List V},DenAll K H xs ds->DenAll K (VS.cut H C) xs ds
 |[],_,q=>by simpa only [DenAll]using q
 |d::ds,_,q=>by
  obtain⟨v,r,rfl,h1,h2⟩:=q.cons_inv;exact denAll_cons (Den.junk h d h1) (DenAll.junk h ds h2)
theorem DenKV.junk(h:Junk H C):∀(kvs:List (br×br)) {es:List (br×V×V)},DenKV K H es kvs->DenKV K (VS.cut H C) es kvs
 |[],_,q=>by simpa only [DenKV]using q
 | (k,d)::r,_,q=>by
  simp only[DenKV]at q ⊢;obtain⟨x,es,h1,h2,h3,h4,h5⟩:=q;exact⟨x,es,h1,h2,Den.junk h k h3,Den.junk h d h4,DenKV.junk h r h5⟩
end
def b4t(a:aw):VS.cut (VS.cut H C) F a=VS.cut (VS.cut H F) C a:=by
 unfold VS.cut;by_cases h1:a∈F<;>by_cases h2:a∈C<;>simp[h1,h2]
def T1(h:Junk H C)(q:Den K (VS.cut H F) v d):Den K (VS.cut (VS.cut H C) F) v d:=
 (Den.junk h.cut d q).up λa o e=>by rw[b4t];exact e
mutual
theorem Own.junk(h:Junk H C):∀(u:Ty) {v:V} {d:br} {fp:List aw},Own K H F u v d fp->Own K (VS.cut H C) F u v d fp
 |.i,_,_,_,q=>by simp only[Own]at q ⊢;exact⟨q.1,q.2.1,T1 h q.2.2⟩
 |.f,_,_,_,q=>by simp only[Own]at q ⊢;exact⟨q.1,T1 h q.2⟩
 |.l u,_,_,_,q=>by
  simp only[Own]at q ⊢;rcases q with⟨h1,h2,q⟩|⟨a,xs,ds,fs,rfl,h1,rfl,rfl,h2⟩
  ·exact .inl ⟨h1,h2,T1 h q⟩
  ·exact .inr ⟨a,xs,ds,fs,rfl,j7 (h.out h1 λo z=>(nomatch z)) h1,rfl,rfl,h2.imp λv d f _ _ z=>Own.junk h u z⟩
 |.tp us,_,_,_,q=>by
  simp only[Own]at q ⊢;rcases q with⟨h1,h2,q⟩|⟨a,xs,ds,rfl,h1,h0,rfl,h2⟩
  ·exact .inl ⟨h1,h2,T1 h q⟩
  exact .inr ⟨a,xs,ds,rfl,j7 (h.out h1 λo z=>(nomatch z)) h1,h0,rfl,OwnTs.junk h us h2⟩
 |.d kt u,_,_,_,q=>by
  simp only[Own]at q ⊢;obtain⟨a,es,ds,fs,rfl,h1,rfl,rfl,h3,h2⟩:=q;exact⟨a,es,ds,fs,rfl,a3Q h h1,rfl,rfl,⟨h3.1,λx hx=>⟨(h3.2 x hx).1,T1 h (h3.2 x hx).2⟩⟩,h2.imp λv d f _ _ z=>Own.junk h u z⟩
theorem OwnTs.junk(h:Junk H C):∀(us:List Ty) {xs:List V} {ds:List br} {fp:List aw},OwnTs K H F us xs ds fp->OwnTs K (VS.cut H C) F us xs ds fp
 |[],_,_,_,q=>by simpa only [OwnTs]using q
 |u::us,_,_,_,q=>by
  simp only[OwnTs]at q ⊢;obtain⟨v,r,d,e,f,g,rfl,rfl,rfl,h1,h2⟩:=q;exact⟨v,r,d,e,f,g,rfl,rfl,rfl,Own.junk h u h1,OwnTs.junk h us h2⟩
end
def a7I(k:HOk P w H h)(j:Junk H C):HOk P w (VS.cut H C) h:=λa o e=>by
 obtain⟨na,e'⟩:=m8 e;refine (k a o e').stay (λb u _ q=>q) (λb q=>j7 (j.out q λo z=>(nomatch z)) q) λb u q=>j7 (λhb=>?_) q
 obtain⟨u,hu⟩:=u;obtain⟨ob,z⟩:=j b hb u q;subst z;have sF:b=a:=hu;exact na (sF▸hb)
def b2h(t:TabsIn K H)(j:Junk H C):TabsIn K (VS.cut H C):=λx hx p e=>by
 obtain⟨qs,t',e1,e2⟩:=t x hx p e;exact⟨qs,t',j7 (j.out e1 λo z=>(nomatch z)) e1,e2⟩
end
end VS
namespace VS
open PySem.Spec L2 PyProof.Rows
def FnV(P:bu)(w:bV)(K:ae)(mg:bA->Option ak)(base:cB)(k n:Nat)(u:Ty)(m:List D->Option D)(H:Hp)(v:V):Prop:=
 ∃fa fo,v=.ref fa/\H fa=cz (.frz fo (.own fa))/\(∃fd,fo.data=.func fd)/\
  ∀(A:bP) (outer:List nQ) (s:au) (us:List ak) (vs:List V) (Q:VK) (E:XK),Room k A->Env0 P w K mg base A outer s H->Vals vs us->spD K n m u vs H Q E->
   gQ (aX P w) A (.call (.ref fa) ⟨us,[]⟩) (CR CX0 outer P w H s Q E) s
section
variable {X:Cx}{M:List Md}{a e0:Expr}{es:List Expr}{fa:EvE}{f:EvA}{ca:Cat}{u:Ty}{x:bA}{p pos:fS}
def c0u(X:Cx)(i k n:Nat)(u:Ty)(m:List D->Option D)(t:TA):TE:=λU H Q=>∃v,U[i]?=cz (cz v)/\t U H λvs H1=>FnV X.prog X.w X.K X.mg X.base k n u m H1 v/\spD X.K n m u vs H1 Q E0
def b4u(hr:Room k X.A)(ha:PA X (e0::es) t)(hN:X.N[i]?=cz x)(hv:Vis X.env.scope x)(hd:(x==("__debug__":bA))=yH)(kU:(x==("__classdict__":bA))=yH)
  (he:aq (e0::es) X.env=(yH,cD e0 X.env)::aq es X.env) (gn:(cy pos (aq es X.env)).any (·.1)=yH):PE X (.Call (.Name x p) (e0::es) [] pos) (c0u X i k n u m t):=by
 rintro pins s U H Q I ⟨v,e,h⟩;refine fH (L2.thn (A5 hN hv hd kU pins s U H (λv' H'=>v'=v/\H'=H) I ⟨v,e,rfl,rfl⟩) λu1 s1 qz=>?_);obtain⟨v',H',I1,r1,z1,z2⟩:=qz;subst z1;subst z2;rw[he];refine PySem.W.callWith_of (P:=λh=>∃fa fo fd,u1=.ref fa/\h.get? fa=cz fo/\fo.data=.func fd) (by show ((yH||(cy pos (aq es X.env)).any (·.1))||false)=yH;rw[gn];rfl) (λh ⟨fa,fo,fd,q1,q2,q3⟩=>?_) (jS ?_)
 ·subst q1;obtain⟨cls,dict,data,slots⟩:=fo;have CV:data=.func fd:=q3;subst CV;exact⟨.frame,.inl rfl,(FH (part:=xn) q2).andThen .now⟩
 ·have sP:=ha pos pins s1 U H' _ I1 h;rw[he]at sP;refine L2.thn sP λus s2 qz=>?_
  obtain⟨vs,H2,I2,r2,⟨fa,fo,q1,q2,⟨fd,q3⟩,q4⟩,q5⟩:=qz;refine⟨?_,?_⟩
  ·have yB:u1=.ref fa:=by rw[q1]at r1;exact r1
   exact⟨fa,fo,fd,yB,(I2.hok fa _ q2).1,q3⟩
  ·have yB:u1=.ref fa:=by rw[q1]at r1;exact r1
   subst yB;refine mz (gH (q4 X.A X.stack s2 us vs Q E0 hr I2.env0 r2 q5) λr s' hq=>?_);cases r with
   |error e=>exact cx hq
   |ok fl=>
    cases fl with
    |ret u=>exact I2.after hq
    |next=>exact cx hq
    |brk=>exact cx hq
    |cont=>exact cx hq
def StE.getF{K:ae}{Z:List D}{U:L2.St}{H P:Hp}{F:List aw}{Φ:Hp->V->Prop}(h:StE K M Z U H P F){i:Nat}(hm:M[i]?=cz (.fn Φ)):∃v,U[i]?=cz (cz v)/\∀H',Same (cut H F) H'->Φ H' v:=by
 obtain⟨G,h1,h3⟩:=h.all;obtain⟨d,o,f,pre,post,e1,e2,⟨_,v,rfl,q⟩,e4,_⟩:=h1.at_ hm;exact⟨v,e2,q⟩
def b4v(i:Nat){k n:Nat}{m:List D->Option D}(hr:Room k X.A)(h:PAX X M (e0::es) f)(hm:M[i]?=cz (.fn (FnV X.prog X.w X.K X.mg X.base k n u m)):=by rfl)(hu:u.shut=yn:=by rfl)(hl:(e0::es).length=n:=by rfl)(hfl:∀Z ds,f Z=cz ds->ds.length=(e0::es).length)
  (hN:X.N[i]?=cz x:=by rfl) (hv:autoParam (NmV X x) ZY._auto_1)
  (he:aq (e0::es) X.env=(yH,cD e0 X.env)::aq es X.env:=by rfl) (gn:(cy pos (aq es X.env)).any (·.1)=yH:=by rfl) :
  PX X M (.Call (.Name x p) (e0::es) [] pos) (eCl m f) (.new u):=by
 obtain⟨t,pa,qa⟩:=h;refine .mk ⟨_,b4u (i:=i) (n:=n) (m:=m) (u:=u) hr pa hN hv.1 hv.2.1 hv.2.2 he gn,λZ U H P F d Q S hf q=>?_⟩;obtain⟨ds,h1,hf⟩:=bnd hf;obtain⟨v,vP,uS⟩:=S.getF hm;refine⟨v,vP,qa Z U H P F ds _ S h1 λvs H1 e1 r1=>⟨uS H1 (k7.trans e1),?_⟩⟩;refine⟨ds,d,by rw[r1.length,hfl Z ds h1,hl],r1,hf,λv H' fp e o nd fr=>q v H' (e1.trans e) ⟨fp,o.shut_out (λa ha=>?_) u hu,nd,λa ha=>e1.free (fr a ha)⟩⟩;rcases av.mp ha with z|z
 ·exact o.lst u a z
 ·exact S.lst' (e1.trans e) a z
end
def spL(K:ae)(n:Nat)(Φ:(List D->Option D)->Hp->V->Prop)(m:(List D->Option D)->List D->Option D)(u:Ty):Sp:=λvs H Q _=>∃rs v gm ds d,vs=rs++[v]/\rs.length=n/\DenAll K H rs ds/\(∀H',Same H H'->Φ gm H' v)/\m gm ds=cz d/\
 ∀v H' fp,Same H H'->Own K H' fp u v d fp->fp.Nodup->(∀a∈fp,H a=xn)->Q v H'
def fnL(us:List Ty)(n:Nat)(g:(List D->Option D)->EvS):(List D->Option D)->List D->Option D:=λgm ds=>if argsOk us ds then (g gm (ds++(.none::aP n .none))).bind λo=>match o with
 |.rt d=>cz d
 |_=>xn
 else xn
theorem StAll.app{K:ae}{H:Hp}{F:List aw}:∀{M1 M2:List Md} {Z1 Z2:List D} {U1 U2:L2.St} {f1 f2:List aw},StAll K H F M1 Z1 U1 f1->StAll K H F M2 Z2 U2 f2->StAll K H F (M1++M2) (Z1++Z2) (U1++U2) (f1++f2)
 |[],_,_,_,_,_,_,_,h,q=>by simp only[StAll]at h;obtain⟨rfl,rfl,rfl⟩:=h;exact q
 |m::M,_,_,_,_,_,_,_,h,q=>by
  simp only[StAll]at h;obtain⟨d,Z,o,U,f,g,rfl,rfl,rfl,h1,h2⟩:=h;rw[aV];exact k6 h1 (StAll.app h2 q)
theorem a2w{K:ae}{H:Hp}{F:List aw}:∀n:Nat,StAll K H F (aP n .dead) (aP n .none) (aP n xn) []
 |0=>R8
 |n+1=>k6 (f:=[]) (g:=[]) rfl (a2w n)
def b4w{P:bu}{w:bV}{K:ae}{mg:bA->Option ak}{base:cB}{x:bA}{st:gx}{f:aw}{fd:dU}{N ps:List bA}{k n:Nat}{us:List Ty}{u:Ty}{Φ:(List D->Option D)->Hp->V->Prop}{g:(List D->Option D)->EvS}{M':(List D->Option D)->List Md}(F:Fun K x x st f fd)(S:FnScope N ps (i5 st))(oF:us.length+1=ps.length)(hn:N.length=ps.length+n)
  (hb:∀(gm:List D->Option D) (f_:ak) (A:bP) (outer:List nQ) (s:au) (H:Hp) (E:XK),Room k (A.deeper (ju x (i5 st) s.heap.objs.size f f_))->PSsX (a0H CX0 P w K mg base N x (i5 st) f f_ A outer s H E).nox u [] (us.map .own++(.fn (Φ gm)::aP n .dead)) (t9 st) (g gm) (M' gm)) :
  FnOk P w K mg base CX0 (k+1) f fd ps (spL K us.length Φ (fnL us n g) u):=by
 refine F.ok S (λvs H Q E h=>?_) (λf_ A outer s H vs Q E hr h=>?_)
 ·obtain⟨rs,v,gm,ds,d,rfl,hl,_⟩:=h;rw[az,hl];exact oF
 obtain⟨rs,v,gm,ds,d,rfl,hl,hd,hΦ,hm,q⟩:=h;obtain⟨t,p,r⟩:=(hb gm f_ A outer s H E hr).out;refine⟨t,p,?_⟩;unfold fnL at hm;by_cases ha:argsOk us ds=yn
 ·rw[aE ha]at hm;obtain⟨o,h1,h2⟩:=bnd hm;cases o with
  |rt d'=>
   have n_:cz d'=cz d:=h2;cases n_
   have e:L2.start N (rs++[v])=rs.map cz++(cz v::aP n xn):=by
    unfold L2.start;rw[show N.length-(rs++[v]).length=n by rw[az,hl];show N.length-(us.length+1)=n;lia];simp
   rw[e];have h0:=P4 (K:=K) (H:=H) ha hd 0;simp only[gX,bj]at h0;have mS:=h0.app (k6 (K:=K) (H:=H) (F:=[]) (m:=.fn (Φ gm)) (d:=h_) (o:=cz v) (f:=[]) ⟨rfl,v,rfl,λH' e'=>hΦ H' (by rw[K3]at e';exact e')⟩ (a2w n));refine r _ _ _ H H [] (.rt d) ⟨⟨_,mS,bH,λa ha=>(nomatch ha)⟩,λa ha=>(nomatch ha),by rw[K3];exact Same.refl H⟩ h1 ?_;exact λv H' fp o nd fr e=>q v H' fp e o nd fr
  |_=>cases h2
 ·rw[aM ha]at hm;cases hm
section
variable {X:Cx}{M:List Md}{e0:Expr}{es:List Expr}{f:EvA}{u:Ty}{x y:bA}{p pv pos:fS}
def b7u:∀(Z:List D) ds,b9 Z=cz ds->ds.length=0:=λZ ds h=>by cases h;rfl
def b4x(h:∀Z ds,fr Z=cz ds->ds.length=n):∀Z ds,a7 fa fr Z=cz ds->ds.length=n+1:=λZ ds q=>by
 obtain⟨x,h1,q⟩:=bnd q;obtain⟨xs,h2,q⟩:=bnd q;cases q
 rw[aY,h Z xs h2]
def PAL(X:Cx)(M:List Md)(es:List Expr)(f:EvA)(Ψ:Hp->V->Prop):Prop:=
 ∃t,PA X es t/\∀(Z:List D) (U:L2.St) (H P:Hp) (F:List aw) (ds:List D) (Q:List V->Hp->Prop),StE X.K M Z U H P F->f Z=cz ds->
  (∀vs v H',Same H H'->DenAll X.K H' vs ds->Ψ H' v->Q (vs++[v]) H')->t U H Q
def b4y(ha:PX X M a fa ca)(hr:PAL X M es fr Ψ)(hs:aq (a::es) X.env=(yH,cD a X.env)::aq es X.env:=by rfl):PAL X M (a::es) (a7 fa fr) Ψ:=by
 obtain⟨ta,pa,qa⟩:=ha.out;obtain⟨tr,pr,qr⟩:=hr;refine⟨_,l6 pa pr hs,λZ U H P F ds Q S hf q=>?_⟩;obtain⟨x,h1,hf⟩:=bnd hf;obtain⟨xs,h2,hf⟩:=bnd hf;cases hf
 exact qa Z U H P F _ _ S h1 λv H1 e1 r1=>qr Z U H1 P F _ _ (S.grow e1) h2 λvs w H2 e2 r2 hw=>q (v::vs) w H2 (e1.trans e2) (denAll_cons (r1.den.up e2) r2) hw
end
def a7J:∀(l r:List ak),kF l->kF r->kF (l++r):=by
 intro l
 fun_induction kF l with
 |case1=>intro r _ h;exact h
 |case2 a t b u c rest ih=>intro r h1 h2;simp only[bG,kF];exact ih r h1 h2
 |case3=>intro r h;exact h.elim
def b2i:∀(l r:List ak),kF l->mf pos (l++r)=cz cv->mf pos l=cz cv\/mf pos r=cz cv:=by
 intro l
 fun_induction kF l with
 |case1=>intro r _ h;exact .inr h
 |case2 a t b u c rest ih=>
  intro r h1 h2;simp only[bG,mf]at h2 ⊢
  split at h2
  ·rename_i hc
   rw[aE hc];exact .inl h2
  ·rename_i hc
   rw[aM hc];exact ih r h1 h2
 |case3=>intro r h;exact h.elim
def LamO(q:bA)(params:oM)(body:Expr)(scope:gK)(clos:List (bA×aw))(H:Hp)(fa:aw):Prop:=
 ∃pm c' mG oc vs t b,H fa=cz (.frz (eV "<lambda>" q params body scope clos pm c' mG) (.own fa))/\H c'=cz (.frz oc (.own b))/\oc.data=.fields vs/\vs[1]?=cz (.str q t)
def LamO.up(h:LamO q params body scope clos H fa)(e:Same H H'):LamO q params body scope clos H' fa:=by
 obtain⟨pm,c',mG,oc,vs,t,b,h1,h2,h3⟩:=h;exact⟨pm,c',mG,oc,vs,t,b,e _ _ h1,e _ _ h2,h3⟩
def c2g(q:bA)(params:oM)(body:Expr)(scope:gK)(clos:List (bA×aw)):TE:=λ_ H Q=>∀fa H',Same H H'->LamO q params body scope clos H' fa->Q (.ref fa) H'
def b2j{X:Cx}(hx:x∈O0)(hP:C4 X.K x=cz P)(hc:X.env.code=.ref c)(hd:gL X.base c P)(hq:X.env.qual++"<lambda>"=W6 x)
  (pI:pY scope X.env=pure clos) (uh:defaultsOf params X.env=([],[])):PE X (.Lambda params body scope kH) (c2g (W6 x) params body scope clos):=by
 intro pins s U H Q I h;refine PySem.W.kla_eval uh ?_;rw[hq];obtain⟨qs,t0,e1,e2⟩:=I.tabs x hx P hP;obtain⟨ps,wZ,ht,hf⟩:=(show a4U H s.heap P qs from I.hok P _ e1);have zL:s.heap.Ns bp X.mg:=I.mod.glob.keeps I.bk;obtain⟨bm,ob,b1,b2,b3,b4,b5,b6⟩:=I.mod.bmain;have Ep:bp≠P:=λq=>by
  obtain⟨o,es,ep,e,ke,_⟩:=zL;rw[q,wZ]at e;cases e;cases ke
 have EI:bm≠P:=λq=>by
  have e:=I.bk _ _ b3;rw[q,wZ]at e;cases e;cases b4
 have EJ:bm≠bp:=λq=>by
  obtain⟨o,es,ep,e,ke,_⟩:=I.mod.glob;rw[q,e]at b3;cases b3;rw[ke]at b6;cases b6
 have hB:s.heap.BuiltinsAt X.mg P:=⟨bm,ob,b1,b2,EJ,EI,I.bk _ _ b3,b4,b5,b6⟩;have hC:gL s.heap c P:=hd.keeps I.bk;cases hn:mf kH ps.toList with
 |some cv=>
  obtain⟨c',oc,vs,q,t,t',rfl,z2,z3,z4,z5⟩:=hf kH cv hn;rw[e2]at z5;have Cw:sd (W6 x) t0=sd q t':=aK z5;cases Cw
  refine PySem.W.kla_makeFunctionHit (mg:=X.mg) pI I.ok.glob zL hc hC wZ ht hn hB λmG h' tk hk jI=>?_
  have oS:H h'.objs.size=xn:=I.hok.fresh jI;have I':=I.laid (a:=h'.objs.size) (o:=.frz (eV "<lambda>" (W6 x) params body scope clos ((X.mg "__name__").getD .none) c' mG) (.own h'.objs.size)) (t':=tk) (h':=h'.push (eV "<lambda>" (W6 x) params body scope clos ((X.mg "__name__").getD .none) c' mG)) (λb u e=>aF _ (hk b u e)) jI ⟨bo _ rfl,_,bo _ rfl⟩;refine⟨.ref h'.objs.size,_,I',rfl,h _ _ (l9 oS _) ⟨_,c',mG,oc,vs,t,P,i6,?_,z3,z4⟩⟩;rw[c9 (j6 z2 oS)];exact z2
 |none=>
  refine PySem.W.kla_makeFunction (mg:=X.mg) pI I.ok.glob zL hc hC wZ ht hn Ep hB λc' mG h' tk Dn uV jz ze Bp=>?_
  obtain⟨c2,oc,vs,t,rc,vZ,BH,oE⟩:=ze;cases rc
  have ES:P<s.heap.objs.size:=aS wZ;have xX:H c'=xn:=I.hok.fresh uV;have ug:s.heap.objs.size<=h'.objs.size:=fg (ij uV jz);have oS:H h'.objs.size=xn:=I.hok.fresh ug;have jg:c'≠h'.objs.size:=bI jz;have low:∀b u,H b=cz u->upd (upd H c' (.frz oc (.own P))) h'.objs.size (.frz (eV "<lambda>" (W6 x) params body scope clos ((X.mg "__name__").getD .none) c' mG) (.own h'.objs.size)) b=cz u:=λb u e=>by
   rw[c9 (j6 e oS),c9 (j6 e xX)];exact e
  have yK:∀b,b<s.heap.objs.size->H b=xn->upd (upd H c' (.frz oc (.own P))) h'.objs.size (.frz (eV "<lambda>" (W6 x) params body scope clos ((X.mg "__name__").getD .none) c' mG) (.own h'.objs.size)) b=xn:=λb hb e=>by
   rw[c9 (bI (bb hb ug)),c9 (bI (bb hb uV))];exact e
  have kp:∀b o,b≠P->s.heap.get? b=cz o->(h'.push (eV "<lambda>" (W6 x) params body scope clos ((X.mg "__name__").getD .none) c' mG)).get? b=cz o:=λb o hb e=>aF _ (Dn b o hb e)
  have nP:∀b,H b=xn->b≠P:=λb e z=>by rw[z,e1]at e;cases e
  have I':=I.un (t':=tk) (h':=h'.push (eV "<lambda>" (W6 x) params body scope clos ((X.mg "__name__").getD .none) c' mG)) (H':=upd (upd H c' (.frz oc (.own P))) h'.objs.size (.frz (eV "<lambda>" (W6 x) params body scope clos ((X.mg "__name__").getD .none) c' mG) (.own h'.objs.size)))
   ⟨λb o e n _ _=>kp b o (nP b n) e,λb o e n _ _=>⟨o.slots,kp b o (nP b n) e⟩,λb o e n _=>yK b (aS e) n,λb o e _=>by
    by_cases hb:b=P
    ·exact⟨_,by rw[hb];exact aF _ Bp⟩
    ·exact⟨o,kp b o hb e⟩,λb xs e=>low b _ e,λb o u e=>low b _ e,λb Gb e=>⟨#[],by rw[low b _ e];simp⟩⟩ (λb u e=>by
    by_cases wQ:b=h'.objs.size
    ·subst wQ;rw[i6]at e;cases e
     exact⟨bo _ rfl,_,bo _ rfl⟩
    ·rw[c9 wQ]at e;by_cases BK:b=c'
     ·subst BK;rw[i6]at e;cases e
      exact⟨aF _ vZ,_,aF _ vZ⟩
     ·rw[c9 BK]at e;by_cases BJ:b=P
      ·subst BJ;rw[e1]at e;cases e
       refine⟨_,aF _ Bp,?_,λpos cv z=>?_⟩
       ·have:(ps++#[jy kH.line,jy kH.col,bL c']).toList=ps.toList++[jy kH.line,jy kH.col,bL c']:=by simp
        rw[this];exact a7J _ _ ht trivial
       ·have:(ps++#[jy kH.line,jy kH.col,bL c']).toList=ps.toList++[jy kH.line,jy kH.col,bL c']:=by simp
        rw[this]at z;rcases b2i _ _ ht z with z|z
        ·obtain⟨c3,C_,CD,q3,t3,t4,y1,y2,y3,y4,y5⟩:=hf pos cv z;exact⟨c3,C_,CD,q3,t3,t4,y1,low _ _ y2,y3,y4,y5⟩
        ·have z':cv=.ref c':=by
          simp only[jy,mf]at z
          split at z
          ·exact (aK z).symm
          ·cases z
         refine⟨c',oc,vs,W6 x,t,t0,z',?_,BH,oE,e2⟩;rw[c9 jg,i6]
      ·refine (I.hok b u e).stay (λd v ke q=>kp d v (λz=>?_) q) (λd q=>low _ _ q) λd v q=>low _ _ q
       rcases ke with z'|z'
       ·exact BJ (z'.symm.trans z)
       ·rw[z,e1]at z';cases z')
  refine⟨.ref h'.objs.size,_,I',rfl,h _ _ (λb u e=>low b u e) ⟨_,c',mG,oc,vs,t,P,i6,?_,BH,oE⟩⟩;rw[c9 jg,i6]
def b0l(P:bu)(w:bV)(K:ae)(mg:bA->Option ak)(base:cB)(N:List bA)(q:bA)(scope:gK)(f:aw)(cd:ak)(cl:List (bA×aw))(A:bP)(outer:List nQ)(s:au)(H:Hp):Cx where
 prog:=P
 w:=w
 K:=K
 mg:=mg
 base:=base
 A:=A.deeper (jB q scope s.heap.objs.size f cd cl)
 N:=N
 s₀:=s
 H₀:=H
 env:=jB q scope s.heap.objs.size f cd cl
 outer:=outer
 stack:=jB q scope s.heap.objs.size f cd cl::outer
 ex:=[]
 calm:=yn
 fn:=λ_=>yH
 pn:=[]
 xe:=λ_ _=>False
structure LamScope (N ps ys:List bA) (sc:gK) (cl:List (bA×aw)):Prop where
 kind:sc.kind=.function
 co:sc.isCoroutine=yH
 gen:sc.isGenerator=yH
 nd:N.Nodup
 pre:N=ps++ys
 par:∀x∈ps,sc.names.lookup x=cz .local
 fre:∀y∈ys,sc.names.lookup y=cz .free
 ncell:∀x∈sc.names,x.2≠.cell
 has:(sc.names.all λx=>x.2 !=.free||(cl.lookup x.1).isSome)=yn
def CellsIn(cl:List (bA×aw))(H:Hp):List bA->List V->Prop
 |[],vs=>vs=[]
 |y::ys,vs=>∃v r c ob uo,vs=v::r/\cl.lookup y=cz c/\H c=cz (.frz ob (.own c))/\ob.data=.cell (cz uo)/\RelV v uo/\CellsIn cl H ys r
section
variable {cl:List (bA×aw)}{H H':Hp}
theorem CellsIn.up(e:Same H H'):∀{ys:List bA} {vs:List V},CellsIn cl H ys vs->CellsIn cl H' ys vs
 |[],_,h=>h
 |y::ys,_,h=>by
  obtain⟨v,r,c,ob,uo,h1,h2,h3,h4,h5,h6⟩:=h;exact⟨v,r,c,ob,uo,h1,h2,e _ _ h3,h4,h5,CellsIn.up e h6⟩
theorem CellsIn.len:∀{ys:List bA} {vs:List V},CellsIn cl H ys vs->vs.length=ys.length
 |[],_,h=>by rw[show _=[] from h];rfl
 |y::ys,_,h=>by
  obtain⟨v,r,c,ob,uo,rfl,h2,h3,h4,h5,h6⟩:=h;rw[aY,aY,CellsIn.len h6]
theorem CellsIn.get:∀{ys:List bA} {vs:List V} {i:Nat} {y:bA} {v:V},CellsIn cl H ys vs->ys[i]?=cz y->vs[i]?=cz v->∃c ob uo,cl.lookup y=cz c/\H c=cz (.frz ob (.own c))/\ob.data=.cell (cz uo)/\RelV v uo
 |[],_,i,y,v,_,e,_=>by simp at e
 |y0::ys,_,0,y,v,h,e1,e2=>by
  obtain⟨v',r,c,ob,uo,rfl,h2,h3,h4,h5,h6⟩:=h;have Fq:y0=y:=by simpa using e1
  have Fp:v'=v:=by simpa using e2
  subst Fq Fp;exact⟨c,ob,uo,h2,h3,h4,h5⟩
 |y0::ys,_,i+1,y,v,h,e1,e2=>by
  obtain⟨v',r,c,ob,uo,rfl,h2,h3,h4,h5,h6⟩:=h;exact CellsIn.get h6 (by simpa using e1) (by simpa using e2)
end
def b4z(cl:List (bA×aw))(H:Hp):Prop:=∀y c,cl.lookup y=cz c->∃ob uo,H c=cz (.frz ob (.own c))/\ob.data=.cell uo
def fnE(us:List Ty)(rm:List D)(f:EvE):List D->Option D:=λds=>if argsOk us ds then f (ds++rm) else xn
theorem b8y{K:ae}{H:Hp}:∀{vs:List V} {ds:List D},DenAll K H vs ds->StAll K H [] (aP vs.length (.own .f)) ds (vs.map cz) []
 |_,[],h=>by rw[h.nil_inv];exact R8
 |_,d::ds,h=>by
  obtain⟨v,r,rfl,h1,h2⟩:=h.cons_inv;refine k6 (K:=K) (H:=H) (F:=[]) (m:=.own .f) (f:=[]) (g:=[]) ⟨v,rfl,?_⟩ (b8y h2);simp only[Own,K3];exact⟨trivial,h1⟩
theorem a2x:∀(ps:List α) (us:List β),((ps.zip us).map (·.1)).Sublist ps
 |[],_=>by rw[oy];exact iC _
 |p::ps,[]=>by rw[nG];exact List.nil_sublist _
 |p::ps,u::us=>by rw[dq,ay];exact (a2x ps us).cons₂ p
def a3R{ps:List bA}{us:List ak}:∀{i:Nat} {y:bA} {v:ak},ps.Nodup->ps[i]?=cz y->us[i]?=cz v->(ps.zip us).reverse.lookup y=cz v:=by
 intro i y v nd h1 h2;have hm:(y,v)∈(ps.zip us).reverse:=by
  rw[List.mem_reverse];exact bw (by rw[rz];exact⟨h1,h2⟩)
 have hk:(((ps.zip us).reverse).map (·.1)).Nodup:=by
  rw[List.map_reverse];have h0:((ps.zip us).map (·.1)).Nodup:=nd.sublist (a2x ps us);exact vn.mpr (h0.imp λz=>cV z)
 have key:∀l:List (bA×ak),(l.map (·.1)).Nodup->(y,v)∈l->l.lookup y=cz v:=by
  intro l
  induction l with
  |nil=>intro _ h;cases h
  |cons p l ih=>
   intro hn hm;rw[ay,bY]at hn;obtain⟨k,z⟩:=p;rcases aG.mp hm with e|e
   ·cases e;simp[List.lookup]
   ·have:(y==k)=yH:=by
     rw[gS];intro q;exact hn.1 (q▸aJ.mpr ⟨_,e,rfl⟩)
    rw[fT,this];exact ih hn.2 e
 exact key _ hk hm
def b7v{P:bu}{w:bV}{K:ae}{mg:bA->Option ak}{base:cB}{k:Nat}{q:bA}{params:oM}{body:Expr}{scope:gK}{cl:List (bA×aw)}{N ps ys:List bA}{us:List Ty}{u:Ty}{f:EvE}{lW:List V}{rm:List D}{H:Hp}{fa:aw}
  (L:LamO q params body scope cl H fa) (S:LamScope N ps ys scope cl) (ud:∀x y c,cl.lookup x=cz c->cl.lookup y=cz c->x=y) (hC:CellsIn cl H ys lW) (yb:b4z cl H) (hD:DenAll K H lW rm) (oF:us.length=ps.length)
  (nZ:∀(pm:ak) (c:aw) (mG:ak) (us:List ak),us.length=ps.length->qW (PySem.W.kla_fn "<lambda>" q params body scope cl pm (.ref c) mG) ⟨us,[]⟩=pure (ps.zip us))
  (hb:∀(c:aw) (A:bP) (outer:List nQ) (s:au) (H:Hp),Room k (A.deeper (jB q scope s.heap.objs.size fa (.ref c) cl))->PX (b0l P w K mg base N q scope fa (.ref c) cl A outer s H) (us.map .own++aP ys.length (.own .f)) body f (.new u)) :
  FnV P w K mg base (k+1) ps.length u (fnE us rm f) H (.ref fa):=by
 obtain⟨pm,c',mG,oc,CF,t0,b0,l1,l2,l3,l4⟩:=L;refine⟨fa,_,rfl,l1,⟨_,rfl⟩,λA outer s as vs Q E hr e0 rv qz=>?_⟩;obtain⟨ds,d,hl,hd,hm,hq⟩:=qz;obtain⟨C,memC,vI⟩:∃C:List aw,(∀c∈C,∃y,cl.lookup y=cz c)/\∀y c,cl.lookup y=cz c->c∈C:=
  ⟨(cl.map (·.1)).filterMap λy=>cl.lookup y,λc hc=>let⟨y,_,e⟩:=dJ.mp hc;⟨y,e⟩,λy c e=>dJ.mpr ⟨y,aJ.mpr ⟨(y,c),cA e,rfl⟩,e⟩⟩
 have J:Junk H C:=λa ha u e=>by
  obtain⟨y,hy⟩:=memC a ha;obtain⟨ob,uo,h1,_⟩:=yb y a hy;rw[h1]at e;cases e
  exact⟨ob,rfl⟩
 have Dj:∀a∈C,∃u,H a=cz u:=λa ha=>by
  obtain⟨y,hy⟩:=memC a ha;obtain⟨ob,uo,h1,_⟩:=yb y a hy;exact⟨_,h1⟩
 have lim:s.heap.NoLimit:=e0.mod.nolimit.keeps λb o e=>(e0.bs b o e).1
 have ho:s.heap.get? fa=cz (eV "<lambda>" q params body scope cl pm c' mG):=(e0.hok fa _ l1).1;have EC:s.heap.CodeRec (.ref c') q:=⟨c',oc,CF,t0,rfl,(e0.hok c' _ l2).1,l3,l4⟩;have EL:as.length=ps.length:=by rw[<-rv.length];exact hl
 have Dd:ps.Nodup:=by have:=S.nd;rw[S.pre]at this;exact this.sublist (kz _ _)
 refine PySem.W.kla_callFunE hr.depth ho rfl S.co S.gen rfl EC ?_;rw[nZ pm c' mG as EL];refine aC (wpAny_newFunctionEnv S.ncell (λy hy=>S.par _ (jq hy).1) (λh₁ qy za=>⟨lim.fresh _ za,?_⟩) S.kind);show gQ _ _ (.expr body (jB q scope s.heap.objs.size fa (.ref c') cl)) _ _;have pH:∀b o,s.heap.get? b=cz o->h₁.get? b=cz o:=λb o e=>za.extBut b o (bI (aS e)) (aF _ e)
 have tE:∀b:aw,b∉(b0l P w K mg base N q scope fa (.ref c') cl A outer s (VS.cut H C)).ex:=λb z=>absurd (show b∈([]:List aw) from z) (by simp)
 have Ea:N.length=ps.length+ys.length:=by rw[S.pre,az]
 have I:Inv (b0l P w K mg base N q scope fa (.ref c') cl A outer s (VS.cut H C)) [] (vs.map cz++lW.map cz) (VS.cut H C) {s with heap:=h₁,toks:=s.toks+(ps.zip as).length}:=by
  refine⟨⟨e0.mod,S.kind,rfl,rfl,aA _,ud,λx hx=>?_,λx c hx _=>(nomatch hx),λ_=>hr.hd,bP.frames_deeper e0.frames,.inr ⟨rfl,rfl⟩,λb z=>absurd z (tE b),λb o e=>⟨(e0.bs b o e).1,y9 (e0.bs b o e).2⟩,e0.bsz,λb _ _=>tE b,λb z=>absurd z (tE b),e0.funs,λb hb=>y9 (e0.frf b hb),b2h e0.tabs J⟩,
   rfl,e0.bare,Un.kept pH,⟨_,qy,λi x v h1 h2 h3=>?_⟩,λx c e=>?_,y9 (e0.hok.fresh (aA _)),λx c e=>X1 (vI x c e),λp hp=>absurd (show p∈([]:List (aw×fV)) from hp) (by simp),(a7I e0.hok J).kept pH,?_⟩
  ·have vN:scope.names.lookup x=cz .cell\/scope.names.lookup x=cz .free:=hx;rcases vN with z|z
   ·exact absurd rfl (S.ncell _ (cA z))
   ·have w:=dN.mp S.has _ (cA z);rw[lG]at w;rcases w with w|w
    ·exact absurd (show (fE !=fE)=yn from w) (by decide)
    ·exact fO.mp w
  ·have nN:(ps++ys)[i]?=cz x:=by rw[<-S.pre];exact h1
   by_cases hi:i<ps.length
   ·rw[dO hi]at nN;rw[dO (by rw[aj,hl];exact hi),a_]at h2;have n_:vs[i]?=cz v:=by
     cases e:vs[i]? with
     |none=>rw[e]at h2;cases h2
     |some a=>rw[e]at h2;cases h2;rfl
    obtain⟨u',hu,r⟩:=rv.get n_;exact⟨u',r,.inl ⟨S.par x (bw nN),a3R Dd nN hu⟩⟩
   ·rw[cQ (by lia)]at nN;rw[cQ (by rw[aj,hl];lia),aj,a_,hl]at h2;have n_:lW[i-ps.length]?=cz v:=by
     cases e:lW[i-ps.length]? with
     |none=>rw[e]at h2;cases h2
     |some a=>rw[e]at h2;cases h2;rfl
    obtain⟨c,ob,uo,z1,z2,z3,z4⟩:=hC.get nN n_;exact⟨uo,z4,.inr ⟨.inr (S.fre x (bw nN)),c,z1,ob,pH c ob (e0.hok c _ z2).1,z3⟩⟩
  ·obtain⟨ob,uo,z1,z2⟩:=yb x c e;exact⟨uo,ob,pH c ob (e0.hok c _ z1).1,z2⟩
  ·show _=N.length;rw[az,aj,aj,hl,hC.len,Ea]
 obtain⟨t,pt,qt⟩:=(hb c' A outer s (VS.cut H C) (hr.deeper _)).out;unfold fnE at hm;by_cases ha:argsOk us ds=yn
 ·rw[aE ha]at hm;have wM:DenAll K (VS.cut H C) vs ds:=DenAll.junk J ds hd;have EF:DenAll K (VS.cut H C) lW rm:=DenAll.junk J rm hD;have h0:=P4 (K:=K) (H:=VS.cut H C) ha wM 0;simp only[gX,bj]at h0;have h1:=b8y EF;rw[hC.len]at h1;have SE:StE K (us.map .own++aP ys.length (.own .f)) (ds++rm) (vs.map cz++lW.map cz) (VS.cut H C) (VS.cut H C) []:=⟨⟨_,h0.app h1,λa ha=>(nomatch ha)⟩,λa ha=>(nomatch ha),by rw[K3];exact Same.refl _⟩;refine PySem.W.kla_codeExpr (dh (pt [] _ _ (VS.cut H C) (λv H'=>Same (VS.cut H C) H'/\ResR K (.new u) (VS.cut H C) H' [] v d) I (qt (ds++rm) _ (VS.cut H C) (VS.cut H C) [] d _ SE hm λv H' e r=>⟨e,r⟩)) (λv s' hs=>?_) λe s' hs=>(show False from hs).elim);obtain⟨v',H',J',r',e',fp,o,nd,fr⟩:=hs;have pO:∀c∈C,H' c=xn:=λc hc=>by
   obtain⟨y,hy⟩:=memC c hc;exact J'.freeC y c hy
  have inn:∀{b:aw} {o:HO},H' b=cz o->a7H C H H' b=cz o:=λ{b o} q=>by
   rw[p8 (λz=>by rw[pO b z]at q;cases q)];exact q
  have nC:∀{b:aw},H b=xn->b∉C:=λ{b} n z=>by
   obtain⟨u,hu⟩:=Dj b z;rw[n]at hu;cases hu
  have yf:∀a∈fp,a∉C:=λa ha z=>by
   obtain⟨ys,q⟩:=o.lst u a ha;rw[pO a z]at q;cases q
  refine (show CE outer P w H s Q v s' from⟨v',a7H C H H',J'.os,J'.bare,⟨λb o q n hb hx=>J'.base.keep b o q (y9 n) hb hx,λb o q n hb hx=>J'.base.slot b o q (y9 n) hb hx,λb o q n hx=>?_,J'.base.there,λb xs e=>?_,λb o u e=>?_,λb ps e=>?_⟩,λb o e=>?_,r',hq v' _ fp (λb o e=>?_) ?_ nd λa ha=>?_⟩)
  ·rw[p8 (nC n)];exact J'.base.free b o q (y9 n) hx
  ·have nb:=J.out e λo z=>(nomatch z)
   rw[p8 nb];exact J'.base.tups b xs (j7 nb e)
  ·by_cases hb:b∈C
   ·rw[a1m hb];exact e
   ·rw[p8 hb];exact J'.base.frzs b o u (j7 hb e)
  ·have nb:=J.out e λo z=>(nomatch z)
   obtain⟨more,z⟩:=J'.base.tbls b ps (j7 nb e);exact⟨more,by rw[p8 nb];exact z⟩
  ·by_cases hb:b∈C
   ·rw[a1m hb]at e;obtain⟨ob,rfl⟩:=J b hb o e;have z:=(e0.hok b _ e).1;have z':=J'.base.keep b ob z (X1 hb) (λy=>by rw[e0.frf b y]at e;cases e) (by intro y;exact absurd (show b∈([]:List aw) from y) (by simp));exact⟨z',_,z'⟩
   ·rw[p8 hb]at e;exact (J'.hok b o e).stay (λ_ _ _ q=>q) (λb q=>inn q) λb u q=>inn q
  ·by_cases hb:b∈C
   ·rw[a1m hb];exact e
   ·rw[p8 hb];exact e' b o (j7 hb e)
  ·refine Own.frame (λb o' hb=>?_) u o λa ha=>p8 (yf a ha)
   obtain⟨n1,n2⟩:=m8 hb;exact j7 (λz=>n1 (ao _ z)) (inn n2)
  ·have:=fr a ha;rw[a0d (yf a ha)]at this;exact this
 ·rw[aM ha]at hm;cases hm
def b0m(X:Cx)(cl:List (bA×aw)):List bA->List Nat->Prop
 |[],js=>js=[]
 |y::ys,js=>∃j r c,js=j::r/\X.N[j]?=cz y/\X.env.kindOf y=cz .cell/\X.env.cells.lookup y=cz c/\cl.lookup y=cz c/\b0m X cl ys r
def c2h(X:Cx)(cl:List (bA×aw)):Prop:=∀p∈cl,X.env.cells.lookup p.1=cz p.2/\X.fn p.1=yn
def b7w(U:L2.St):List Nat->List V->Prop
 |[],vs=>vs=[]
 |j::js,vs=>∃v r,vs=v::r/\U[j]?=cz (cz v)/\b7w U js r
def c0v(X:Cx)(cl:List (bA×aw))(ys:List bA)(js:List Nat)(sp:Sp)(t:TA):TE:=λU H Q=>t U H λvs H1=>∃lW,b7w U js lW/\
 ∀(H2:Hp) (C:List aw),(∀x y c,cl.lookup x=cz c->cl.lookup y=cz c->x=y)->Same H1 H2->CellsIn cl H2 ys lW->b4z cl H2->Junk H2 C->(∀b,b∉C->H2 b=H1 b)->(∀b∈C,H1 b=xn)->sp vs H2 (λv H'=>Junk H' C->Q v (VS.cut H' C)) E0
theorem a7K{cl:List (bA×aw)}(I:Inv X pins U H s)(h2:∀y c,cl.lookup y=cz c->∀ob,s.heap.get? c=cz ob->H2 c=cz (.frz ob (.own c))) :
  ∀{ys:List bA} {js:List Nat} {lW:List V},b0m X cl ys js->b7w U js lW->CellsIn cl H2 ys lW
 |[],js,lW,h,q=>by
  rw[show js=[] from h]at q;exact q
 |y::ys,_,lW,h,q=>by
  obtain⟨j,r,c,rfl,h1,h3,h4,h5,h6⟩:=h;obtain⟨v,rs,rfl,q1,q2⟩:=q;obtain⟨m,hn,hl⟩:=I.loc;obtain⟨u,ru,lk⟩:=hl j y v h1 q1 (.inr (.inl h3));rcases lk with⟨k,_⟩|⟨k,c',e',ob,z1,z2⟩
  ·rw[h3]at k;cases k
  ·rw[h4]at e';cases e'
   exact⟨v,rs,c,ob,u,rfl,h5,h2 y c h5 ob z1,z2,ru,a7K I h2 h6 q2⟩
section
variable {X:Cx}{k:Nat}{f:aw}{fd:dU}{ps:List bA}{sp:Sp}{x:bA}{p pos:fS}{e:Expr}{es:List Expr}{t:TA}{cl:List (bA×aw)}{ys:List bA}{js:List Nat}
def b4A(F:FnOk X.prog X.w X.K X.mg X.base CX0 k f fd ps sp)(hr:Room k X.A)(hg:Gl X x)(hm:X.mg x=cz (.ref f))(hk:fA X.K (.ref f)=yn)(hb:Binds X.K fd ps [])(ha:PA X (e::es) t)(uk:b0m X cl ys js)(mD:c2h X cl)
  (lM:(x==("__debug__":bA))=yH) (he:aq (e::es) X.env=(yH,cD e X.env)::aq es X.env) (gn:(cy pos (aq es X.env)).any (·.1)=yH) :
  PE X (.Call (.Name x p) (e::es) [] pos) (c0v X cl ys js sp t):=by
 intro pins s0 U H0 Q I0 h;refine fH (Z9 I0 hg hm ?_ lM);refine nE (h₀:=X.base) I0.ok.mod.kin hk (L2.thn (ha pos pins s0 U H0 _ I0 h) λus s ⟨vs,H,I,r,lW,wN,q⟩=>⟨I.kIn,?_⟩) he gn;obtain⟨C,memC,vI⟩:∃C:List aw,(∀c∈C,∃y,cl.lookup y=cz c)/\∀y c,cl.lookup y=cz c->c∈C:=
  ⟨(cl.map (·.1)).filterMap λy=>cl.lookup y,λc hc=>let⟨y,_,e⟩:=dJ.mp hc;⟨y,e⟩,λy c e=>dJ.mpr ⟨y,aJ.mpr ⟨(y,c),cA e,rfl⟩,e⟩⟩
 have pK:∀c∈C,∃y,X.env.cells.lookup y=cz c/\X.fn y=yn:=λc hc=>by
  obtain⟨y,hy⟩:=memC c hc;exact⟨y,mD _ (cA hy)⟩
 have pO:∀c∈C,H c=xn:=λc hc=>by
  obtain⟨y,hy,_⟩:=pK c hc;exact I.freeC y c hy
 have nh:∀c∈C,∃ob v,s.heap.get? c=cz ob/\ob.data=.cell v:=λc hc=>by
  obtain⟨y,hy,_⟩:=pK c hc;obtain⟨v,ob,z1,z2⟩:=I.cell y c hy;exact⟨ob,v,z1,z2⟩
 have sN:∀c∈C,X.s₀.heap.objs.size<=c:=λc hc=>by
  obtain⟨y,hy,hf⟩:=pK c hc;exact I.ok.cab y c hf hy
 obtain⟨H2,qT,mW⟩:∃H2:Hp,(∀c∈C,∀ob,s.heap.get? c=cz ob->H2 c=cz (.frz ob (.own c)))/\∀b,b∉C->H2 b=H b:=
  ⟨λb=>if b∈C then (s.heap.get? b).map (λo=>HO.frz o (.own b)) else H b,λc hc ob z=>by show (if c∈C then _ else _)=_;rw[aE hc,z];rfl,λb hb=>aM hb⟩
 have lY:Same H H2:=λb o e=>by
  rw[mW b (λz=>by rw[pO b z]at e;cases e)];exact e
 have J2:Junk H2 C:=λa hm u e=>by
  obtain⟨ob,v,z1,_⟩:=nh a hm;rw[qT a hm ob z1]at e;cases e
  exact⟨ob,rfl⟩
 have pU:HOk X.prog X.w H2 s.heap:=λb o e=>by
  by_cases hb:b∈C
  ·obtain⟨ob,v,z1,_⟩:=nh b hb;rw[qT b hb ob z1]at e;cases e
   exact⟨z1,_,z1⟩
  ·rw[mW b hb]at e;exact (I.hok b o e).stay (λ_ _ _ q=>q) (λb q=>lY _ _ q) λb u q=>lY _ _ q
 have e0:Env0 X.prog X.w X.K X.mg X.base X.A X.stack s H2:=by
  have z:=I.env0;refine⟨z.frames,z.mod,λb o e=>⟨(z.bs b o e).1,?_⟩,z.bsz,z.funs,λb hb=>?_,pU,z.bare,λx hx p e=>?_⟩
  ·rw[mW b λhc=>absurd (bb (aS e) (cR I.ok.bsz (sN b hc))) (dA _)];exact (z.bs b o e).2
  ·rw[mW b λhc=>?_]
   ·exact z.frf b hb
   ·rcases aG.mp (I.stkSub b hb) with e|e
    ·obtain⟨y,hy,_⟩:=pK b hc;exact I.cne y b hy e
    ·obtain⟨_,o,ho,_⟩:=I.ok.funs.mem e;exact absurd (bb (aS ho) (sN b hc)) (dA _)
  ·obtain⟨qs,t',e1,e2⟩:=z.tabs x hx p e;exact⟨qs,t',lY _ _ e1,e2⟩
 have pR:=q H2 C (λx y c z1 z2=>I.ok.inj x y c (mD _ (cA z1)).1 (mD _ (cA z2)).1) lY (a7K I (λy c hy ob z=>qT c (vI y c hy) ob z) uk wN) (λy c hy=>by
  obtain⟨ob,v,z1,z2⟩:=nh c (vI y c hy);exact⟨ob,v,qT c (vI y c hy) ob z1,z2⟩) J2 mW pO
 have r2:Vals vs (us++[]):=by rw[bj];exact r
 have hl:(us++[]).length=ps.length:=by rw[<-r2.length];exact F.len _ _ _ _ pR
 refine mz (gH (F.run X.A X.stack s H2 ⟨us,[]⟩ (us++[]) vs _ E0 hr e0 (hb s us I.kIn hl) r2 pR) λr s' hq=>?_);cases r with
 |error e=>exact cx hq
 |ok fl=>
  cases fl with
  |next=>exact cx hq
  |brk=>exact cx hq
  |cont=>exact cx hq
  |ret u=>
   obtain⟨v,H',os,bare,un,qL,rv,qv⟩:=(show CE X.stack X.prog X.w H2 s _ u s' from hq);have fz:∀c∈C,∃ob,s.heap.get? c=cz ob/\H' c=cz (.frz ob (.own c))/\s'.heap.get? c=cz ob:=λc hc=>by
    obtain⟨ob,v,z1,_⟩:=nh c hc;have z2:=un.frzs c ob _ (qT c hc ob z1);exact⟨ob,z1,z2,(qL c _ z2).1⟩
   have J':Junk H' C:=λa hm u e=>by
    obtain⟨ob,_,z,_⟩:=fz a hm;rw[z]at e;cases e
    exact⟨ob,rfl⟩
   have n2:∀b,H b=xn->b∉C->H2 b=xn:=λb n hb=>by rw[mW b hb];exact n
   have oC:∀b u,H b=cz u->b∉C:=λb u e z=>by rw[pO b z]at e;cases e
   have CK:Un (frs X.stack) [] H (VS.cut H' C) s.heap s'.heap:=by
    refine⟨λb o e n hb hx=>?_,λb o e n hb hx=>?_,λb o e n hx=>?_,un.there,λb xs e=>?_,λb o u e=>?_,λb ps e=>?_⟩
    ·by_cases hc:b∈C
     ·obtain⟨ob,z1,_,z3⟩:=fz b hc;rw[e]at z1;cases z1
      exact z3
     ·exact un.keep b o e (n2 b n hc) hb hx
    ·by_cases hc:b∈C
     ·obtain⟨ob,z1,_,z3⟩:=fz b hc;rw[e]at z1;cases z1
      exact⟨o.slots,z3⟩
     ·exact un.slot b o e (n2 b n hc) hb hx
    ·by_cases hc:b∈C
     ·exact X1 hc
     ·exact y9 (un.free b o e (n2 b n hc) hx)
    ·exact j7 (oC b _ e) (un.tups b xs (lY _ _ e))
    ·exact j7 (oC b _ e) (un.frzs b o u (lY _ _ e))
    ·obtain⟨more,z⟩:=un.tbls b ps (lY _ _ e);exact⟨more,j7 (oC b _ e) z⟩
   exact⟨v,VS.cut H' C,I.call' os CK (a7I qL J') bare (λb z=>absurd z (by simp)),rv,qv J'⟩
end
def Q5(scope:gK)(env:nQ):List (bA×aw):=scope.names.foldl (λcs p=>if p.2==.free then (match env.cells.lookup p.1 with|some c=>(p.1,c)::cs|none=>cs) else cs) []
def a9c:∀p∈Q5 scope env,env.cells.lookup p.1=cz p.2:=by
 have key:∀(l:List (bA×jd)) (cs:List (bA×aw)),(∀p∈cs,env.cells.lookup p.1=cz p.2)->∀p∈l.foldl (λcs p=>if p.2==.free then (match env.cells.lookup p.1 with|some c=>(p.1,c)::cs|none=>cs) else cs) cs,env.cells.lookup p.1=cz p.2:=by
  intro l
  induction l with
  |nil=>intro cs h;exact h
  |cons a l ih=>
   intro cs h;rw[GV];refine ih _ λp hp=>?_
   split at hp
   ·split at hp
    ·rename_i c hc
     rcases aG.mp hp with e|e
     ·rw[e];exact hc
     ·exact h p e
    ·exact h p hp
   ·exact h p hp
 exact key _ _ λp hp=>(nomatch hp)
def b7x{X:Cx}(oS:∀x,X.fn x=yn:=by exact λ_=>rfl):c2h X (Q5 scope X.env):=λp hp=>⟨a9c p hp,oS _⟩
section
variable {X:Cx}{M:List Md}{e0:Expr}{es:List Expr}{f:EvA}{u uf:Ty}{x:bA}{p pos kH:fS}{params:oM}{body:Expr}{scope:gK}{ys:List bA}{js:List Nat}
def b7y(hx:y∈O0)(hP:C4 X.K y=cz P)(hc:X.env.code=.ref c)(hd:gL X.base c P)(hq:X.env.qual++"<lambda>"=W6 y)
  (pI:pY scope X.env=pure (Q5 scope X.env):=by rfl) (uh:defaultsOf params X.env=([],[]):=by rfl) (hs:aq [.Lambda params body scope kH] X.env=(yH,cD (.Lambda params body scope kH) X.env)::aq [] X.env:=by rfl) :
  PAL X M [.Lambda params body scope kH] b9 λH v=>∃fa,v=.ref fa/\LamO (W6 y) params body scope (Q5 scope X.env) H fa:=by
 refine⟨_,l6 (b2j hx hP hc hd hq pI uh) o9 hs,λZ U H P F ds Q S hf q=>?_⟩;cases hf
 exact λfa H' e L=>q [] (.ref fa) H' e denAll_nil ⟨fa,rfl,L⟩
def c0w(M:List Md):List Nat->Prop
 |[]=>True
 |j::js=>(∃w,M[j]?=cz (.own w))/\c0w M js
theorem b0n{K:ae}{Z:List D}{U:L2.St}{H P:Hp}{F:List aw}(S:StE K M Z U H P F):∀{js:List Nat},c0w M js->∃lW,b7w U js lW/\DenAll K H lW (js.map λj=>Z.getD j .none)
 |[],_=>⟨[],rfl,denAll_nil⟩
 |j::js,h=>by
  obtain⟨⟨w,hw⟩,h2⟩:=h;obtain⟨v,fp,e,o,_⟩:=S.get hw;obtain⟨lW,q1,q2⟩:=b0n S h2;exact⟨v::lW,⟨v,lW,rfl,e,q1⟩,denAll_cons (o.den w) q2⟩
def b7z(m:(List D->Option D)->List D->Option D)(us:List Ty)(js:List Nat)(fb:EvE)(f:EvA):EvE:=λZ=>(f Z).bind (m (fnE us (js.map λj=>Z.getD j .none) fb))
def a9d{k kf n:Nat}{ps pl N:List bA}{q:bA}{us:List Ty}{fb:EvE}{m:(List D->Option D)->List D->Option D}
  (W:Has X.prog X.w X.K X.mg X.base x k ps (spL X.K n (λgm=>FnV X.prog X.w X.K X.mg X.base (kf+1) pl.length uf gm) m u)) (hr:Room k X.A) (h:PAL X M (e0::es) f λH v=>∃fa,v=.ref fa/\LamO q params body scope (Q5 scope X.env) H fa)
  (uk:b0m X (Q5 scope X.env) ys js) (hM:c0w M js) (S:LamScope N pl ys scope (Q5 scope X.env)) (oF:us.length=pl.length)
  (nZ:∀(pm:ak) (c:aw) (mG:ak) (us:List ak),us.length=pl.length->qW (PySem.W.kla_fn "<lambda>" q params body scope (Q5 scope X.env) pm (.ref c) mG) ⟨us,[]⟩=pure (pl.zip us))
  (hb:∀(fa c:aw) (A:bP) (outer:List nQ) (s:au) (H:Hp),Room kf (A.deeper (jB q scope s.heap.objs.size fa (.ref c) (Q5 scope X.env)))->PX (b0l X.prog X.w X.K X.mg X.base N q scope fa (.ref c) (Q5 scope X.env) A outer s H) (us.map .own++aP ys.length (.own .f)) body fb (.new uf))
  (hfl:∀Z ds,f Z=cz ds->ds.length=n) (hu:u.shut=yn:=by rfl) (oS:∀x,X.fn x=yn:=by exact λ_=>rfl)
  (hg:Gl X x:=by rfl) (lM:(x==("__debug__":bA))=yH:=by decide) (he:aq (e0::es) X.env=(yH,cD e0 X.env)::aq es X.env:=by rfl) (gn:(cy pos (aq es X.env)).any (·.1)=yH:=by rfl) :
  PX X M (.Call (.Name x p) (e0::es) [] pos) (b7z m us js fb f) (.new u):=by
 obtain⟨t,pa,qa⟩:=h;obtain⟨GH,fd,F,b,kp,Dg⟩:=W.ex;refine .mk ⟨_,b4A F hr hg Dg kp b pa uk (b7x oS) lM he gn,λZ U H P F d Q S' hf q=>?_⟩;obtain⟨ds,h1,hf⟩:=bnd hf;refine qa Z U H P F ds _ S' h1 λvs v H1 e1 r1 ⟨fa,hv,L⟩=>?_
 subst hv;obtain⟨lW,c1,c2⟩:=b0n (S'.grow e1) hM;refine⟨lW,c1,λH2 C ud s2 ci Fw J2 o2 n2=>?_⟩;refine⟨vs,.ref fa,_,ds,d,rfl,by rw[r1.length];exact hfl Z ds h1,r1.up s2,λH' e'=>b7v (L.up (s2.trans e')) S ud (ci.up e') (λy c z=>let⟨ob,uo,w1,w2⟩:=Fw y c z;⟨ob,uo,e' _ _ w1,w2⟩) (c2.up (s2.trans e')) oF nZ (hb fa),hf,λv H' fp e o nd fr J'=>?_⟩;have yf:∀a∈fp,a∉C:=λa ha z=>by
  obtain⟨ys,w⟩:=o.lst u a ha;obtain⟨ob,w'⟩:=J' a z _ w;have:=ys.2;rw[w']at this;exact this
 have sm:Same H1 (VS.cut H' C):=λb o' hb=>j7 (λz=>by rw[n2 b z]at hb;cases hb) (e _ _ (s2 _ _ hb))
 refine q v (VS.cut H' C) (e1.trans sm) ⟨fp,(o.junk J' u).shut_out (λa ha=>?_) u hu,nd,λa ha=>?_⟩
 ·rcases av.mp ha with z|z
  ·exact (o.junk J' u).lst u a z
  ·exact S'.lst' (e1.trans sm) a z
 ·have:=fr a ha;rw[o2 a (yf a ha)]at this;exact e1.free this
end
def b4B{P:bu}{w:bV}{K:ae}{mg:bA->Option ak}{base:cB}{x:bA}{st:gx}{f:aw}{fd:dU}{N ps:List bA}{k n:Nat}{us:List Ty}{u:Ty}{g:EvS}{M':List Md}(F:Fun K x x st f fd)(S:FnScope N ps (i5 st))(oF:us.length=ps.length)(hn:N.length=ps.length+n)
  (hb:∀(A:bP) (outer:List nQ) (s:au) (H:Hp) (E:XK),Room k (A.deeper (ju x (i5 st) s.heap.objs.size f fd.code))->PSsX (a0H CX0 P w K mg base N x (i5 st) f fd.code A outer s H E).nox u [] (us.map .own++aP n .dead) (t9 st) g M') :
  FnOk P w K mg base CX0 (k+1) f fd ps (spD K ps.length (fnD us n g) u):=by
 obtain⟨oc,od,kV,doc,pm,an,f_,ct,pA,rfl,lk,kU⟩:=F.ex;refine b3d lk kU S (λvs H Q E ⟨ds,d,hl,_⟩=>hl) λA outer s H vs Q E hr qz=>?_
 obtain⟨ds,d,hl,hd,hm,q⟩:=qz;obtain⟨t,p,r⟩:=(hb A outer s H E hr).out;refine⟨t,p.nox,?_⟩;unfold fnD at hm;by_cases ha:argsOk us ds=yn
 ·rw[aE ha]at hm;obtain⟨o,h1,h2⟩:=bnd hm;cases o with
  |rt d'=>
   have n_:cz d'=cz d:=h2;cases n_
   have e:L2.start N vs=vs.map cz++aP n xn:=by
    unfold L2.start;rw[show N.length-vs.length=n by lia]
   rw[e];refine r _ (ds++aP n h_) _ H H [] (.rt d) ⟨⟨[],P4 ha hd n,bH,λa ha=>(nomatch ha)⟩,λa ha=>(nomatch ha),by rw[K3];exact Same.refl H⟩ h1 ?_;exact λv H' fp o nd fr e=>q v H' fp e o nd fr
  |_=>cases h2
 ·rw[aM ha]at hm;cases hm
def b4C{K:ae}{base:cB}{fd:dU}(e:(C4 K x).isSome=yn)(X:K.In base)(G:base.Ns bp mg)(a:b_ K bp x=cz (cz (.ref f)))(l:K.lookup f=cz ⟨oc,od,.func fd,sl⟩) :
  ∃c p,fd.code=.ref c/\C4 K x=cz p/\gL base c p:=by
 obtain⟨p,hp⟩:=fO.mp e;obtain⟨f',Gf,Ge,B_,uN,c,h1,h2,h3,h4⟩:=a5o hp X G;have h5:=gq X G a;rw[h1]at h5;cases h5
 rw[l]at h2;cases h2
 exact⟨c,p,h3,hp,h4⟩
def ObjOk.has(x:ObjOk P w H h a o):∃u,h.get? a=cz u:=by
 cases o with
 |lst xs=>obtain⟨_,_,_,_,e⟩:=x;exact⟨_,e⟩
 |tup xs=>obtain⟨_,_,_,ob,e,_⟩:=x;exact⟨_,e⟩
 |dK kvs=>obtain⟨_,_,_,_,o,_,_,e,_⟩:=x;exact⟨_,e⟩
 |dT kvs=>obtain⟨_,_,_,_,o,_,_,e,_⟩:=x;exact⟨_,e⟩
 |set S n=>obtain⟨o,_,_,_,e,_⟩:=x;exact⟨_,e⟩
 |ins C dx fs=>obtain⟨_,_,_,e,_⟩:=x;exact⟨_,e⟩
 |own y=>exact x
 |xd fs=>obtain⟨_,⟨_,_,_,e,_⟩,_⟩:=x;exact⟨_,e⟩
 |rng lo hi=>obtain⟨_,_,_,e⟩:=x;exact⟨_,e⟩
 |frz ob u=>obtain⟨e,_⟩:=x;exact⟨_,e⟩
 |tbl ps=>obtain⟨_,e,_⟩:=(show a4U H h a ps from x);exact⟨_,e⟩
 |met f y=>exact⟨_,(show h.get? a=cz _ from x)⟩
 |ext φ=>obtain⟨_,e,_⟩:=x;exact e
def a9e{h h':cB}(x:HOk P w H h)(k:∀b u v,H b=cz v->h.get? b=cz u->h'.get? b=cz u):HOk P w H h':=λa o e=>
 ObjOk.stay (x a o e) (λb u hb q=>by
  rcases hb with rfl|hb
  ·exact k _ u _ e q
  ·exact k b u _ hb q) (λ_ q=>q) λ_ _ q=>q
structure Fly (P:bu) (w:bV) (outer:List nQ) (H:Hp) (s:au) (a C t:aw) (H':Hp) (B h':cB):Prop where
 un:Un (frs outer) [] H H' s.heap h'
 hok:HOk P w H' h'
 na:H' a=xn
 new:s.heap.get? a=xn
 fl:kC B outer a (.ref C) (.ref t) h'
 c1:∀b u,H' b=cz u->∃o,B.get? b=cz o
 c2:∀b o,s.heap.get? b=cz o->H b=xn->b∉frs outer->B.get? b=cz o
 c3:∀b o,s.heap.get? b=cz o->b∉frs outer->∃o',B.get? b=cz o'
section
variable {P:bu}{w:bV}{outer:List nQ}{H H':Hp}{s:au}{a C t:aw}{B h' yc:cB}
def Fly.step(x:Fly P w outer H s a C t H' B h')(fl:kC B outer a (.ref C) (.ref t) yc)(up:h'.UpToSlots yc):Fly P w outer H s a C t H' B yc:=by
 have slot:∀b o,s.heap.get? b=cz o->H b=xn->b∈frs outer->∃sl,yc.get? b=cz {o with slots:=sl}:=λb o q n hb=>by
  obtain⟨sl,e1⟩:=x.un.slot b o q n hb (by simp);obtain⟨_,o',e2,hd⟩:=x.fl.2.2.1.mem hb;rw[e1]at e2;cases e2
  obtain⟨uN,e3⟩:=up b _ e1 hd;exact⟨uN,e3⟩
 refine⟨⟨λb o q n hb _=>fl.1 b o (x.c2 b o q n hb),λb o q n hb _=>slot b o q n hb,x.un.free,λb o q _=>?_,x.un.tups,x.un.frzs,x.un.tbls⟩,a9e x.hok λb u v hv q=>?_,x.na,x.new,fl,x.c1,x.c2,x.c3⟩
 ·by_cases hb:b∈frs outer
  ·obtain⟨_,o',e2,_⟩:=fl.2.2.1.mem hb;exact⟨o',e2⟩
  ·obtain⟨o',e⟩:=x.c3 b o q hb;exact⟨o',fl.1 b o' e⟩
 ·obtain⟨o,e⟩:=x.c1 b v hv;have:=x.fl.1 b o e;rw[q]at this;cases this
  exact fl.1 b u e
end
def CXR(P:bu)(w:bV):CXT:=λouter H s E e s'=>∃(a C t:aw) (H':Hp) (B:cB),e=.ref a/\s'.os=s.os/\jV s'.gens/\Fly P w outer H s a C t H' B s'.heap/\E (.ref C) xn H'
section
variable {X:Cx}{pins:List (aw×fV)}{U:L2.St}{H:Hp}{s:au}
def b4D(I:Inv X pins U H s)(mS:X.stack=X.env::X.outer)(hex:X.ex=[])(mk:cB.MadeExcOf s.heap h1 a (.ref C) args)(hB:B=gf s.heap (frs X.stack))
  (fl:kC B X.outer a (.ref C) (.ref t) h2) (up:h1.UpToSlots h2):Fly X.prog X.w X.outer X.H₀ X.s₀ a C t H B h2:=by
 subst hB;have pC:∀b,b∉X.ex:=λb hb=>by rw[hex]at hb;cases hb
 have sub:∀b,b∉frs X.outer->(∃o,X.s₀.heap.get? b=cz o)->b∉frs X.stack:=λb hb ⟨o,ho⟩ z=>by
  rcases aG.mp (I.stkSub b z) with e|e
  ·have:=aS ho;rw[e]at this;exact absurd (bb this I.ok.above) (dA _)
  ·exact hb e
 have inB:∀b o,s.heap.get? b=cz o->b∉frs X.stack->(gf s.heap (frs X.stack)).get? b=cz o:=λb o e hb=>yl _ e hb
 have AY:∀b v,H b=cz v->b∉frs X.stack:=λb v e z=>by rw[I.stkFree b z]at e;cases e
 have c2:∀b o,X.s₀.heap.get? b=cz o->X.H₀ b=xn->b∉frs X.outer->(gf s.heap (frs X.stack)).get? b=cz o:=λb o q n hb=>
  inB b o (I.base.keep b o q n hb (pC b)) (sub b hb ⟨o,q⟩)
 have c3:∀b o,X.s₀.heap.get? b=cz o->b∉frs X.outer->∃o',(gf s.heap (frs X.stack)).get? b=cz o':=λb o q hb=>by
  obtain⟨o',e⟩:=I.base.there b o q (pC b);exact⟨o',inB b o' e (sub b hb ⟨o,q⟩)⟩
 have c1:∀b u,H b=cz u->∃o,(gf s.heap (frs X.stack)).get? b=cz o:=λb u e=>by
  obtain⟨o,ho⟩:=ObjOk.has (I.hok b u e);exact⟨o,inB b o ho (AY b u e)⟩
 have mem:∀b,b∈frs X.outer->b∈frs X.stack:=λb hb=>by
  rw[mS];unfold frs;rw[gY]
  split
  ·exact hb
  ·exact ax _ hb
 refine⟨⟨λb o q n hb _=>fl.1 b o (c2 b o q n hb),λb o q n hb _=>?_,λb o q n _=>I.base.free b o q n (pC b),λb o q _=>?_,I.base.tups,I.base.frzs,I.base.tbls⟩,a9e I.hok λb u v hv q=>?_,?_,?_,fl,c1,c2,c3⟩
 ·obtain⟨sl,e1⟩:=I.base.slot b o q n hb (pC b);obtain⟨_,o',e2,hd⟩:=I.stack.mem (mem b hb);rw[e1]at e2;cases e2
  obtain⟨yw,e4⟩:=up b _ (mk.keeps b _ e1) hd;exact⟨yw,e4⟩
 ·by_cases hb:b∈frs X.outer
  ·obtain⟨_,o',e2,_⟩:=fl.2.2.1.mem hb;exact⟨o',e2⟩
  ·obtain⟨o',e⟩:=c3 b o q hb;exact⟨o',fl.1 b o' e⟩
 ·exact fl.1 b u (inB b u q (AY b v hv))
 ·cases q:H a with
  |none=>rfl
  |some u=>
   obtain⟨o,ho⟩:=ObjOk.has (I.hok a u q);rw[mk.new]at ho;cases ho
 ·cases q:X.s₀.heap.get? a with
  |none=>rfl
  |some o=>
   obtain⟨o',e⟩:=I.base.there a o q (pC a);rw[mk.new]at e;cases e
def c0x(I:Inv X pins U H s)(mS:X.stack=X.env::X.outer)(hex:X.ex=[])(x:Fly X.prog X.w X.stack H s a C t H' B h1)
  (fl:kC B X.outer a (.ref C) (.ref t) h2) (up:h1.UpToSlots h2):Fly X.prog X.w X.outer X.H₀ X.s₀ a C t H' B h2:=by
 have pC:∀b,b∉X.ex:=λb hb=>by rw[hex]at hb;cases hb
 have sub:∀b,b∉frs X.outer->(∃o,X.s₀.heap.get? b=cz o)->b∉frs X.stack:=λb hb ⟨o,ho⟩ z=>by
  rcases aG.mp (I.stkSub b z) with e|e
  ·have:=aS ho;rw[e]at this;exact absurd (bb this I.ok.above) (dA _)
  ·exact hb e
 have mem:∀b,b∈frs X.outer->b∈frs X.stack:=λb hb=>by
  rw[mS];unfold frs;rw[gY]
  split
  ·exact hb
  ·exact ax _ hb
 have c2:∀b o,X.s₀.heap.get? b=cz o->X.H₀ b=xn->b∉frs X.outer->B.get? b=cz o:=λb o q n hb=>
  x.c2 b o (I.base.keep b o q n hb (pC b)) (I.base.free b o q n (pC b)) (sub b hb ⟨o,q⟩)
 have c3:∀b o,X.s₀.heap.get? b=cz o->b∉frs X.outer->∃o',B.get? b=cz o':=λb o q hb=>by
  obtain⟨o',e⟩:=I.base.there b o q (pC b);exact x.c3 b o' e (sub b hb ⟨o,q⟩)
 refine⟨⟨λb o q n hb _=>fl.1 b o (c2 b o q n hb),λb o q n hb _=>?_,λb o q n _=>?_,λb o q _=>?_,λb xs q=>x.un.tups b xs (I.base.tups b xs q),λb o u q=>x.un.frzs b o u (I.base.frzs b o u q),λb ps q=>?_⟩,a9e x.hok λb u v hv q=>?_,x.na,?_,fl,x.c1,c2,c3⟩
 ·obtain⟨sl,e1⟩:=I.base.slot b o q n hb (pC b);obtain⟨xD,e2⟩:=x.un.slot b _ e1 (I.base.free b o q n (pC b)) (mem b hb) (by simp);obtain⟨_,o',e3,hd⟩:=x.fl.2.2.1.mem (mem b hb);rw[e2]at e3;cases e3
  obtain⟨yw,e4⟩:=up b _ e2 hd;exact⟨yw,e4⟩
 ·obtain⟨o',e1⟩:=I.base.there b o q (pC b);exact x.un.free b o' e1 (I.base.free b o q n (pC b)) (by simp)
 ·by_cases hb:b∈frs X.outer
  ·obtain⟨_,o',e2,_⟩:=fl.2.2.1.mem hb;exact⟨o',e2⟩
  ·obtain⟨o',e⟩:=c3 b o q hb;exact⟨o',fl.1 b o' e⟩
 ·obtain⟨m1,e1⟩:=I.base.tbls b ps q;obtain⟨m2,e2⟩:=x.un.tbls b _ e1;exact⟨m1++m2,by rw[e2,iq]⟩
 ·obtain⟨o,e⟩:=x.c1 b v hv;have:=x.fl.1 b o e;rw[q]at this;cases this
  exact fl.1 b u e
 ·cases q:X.s₀.heap.get? a with
  |none=>rfl
  |some o=>
   obtain⟨o',e⟩:=I.base.there a o q (pC a);rw[x.new]at e;cases e
end
abbrev Wsh:=bA->L2.St->Hp->Prop
abbrev EvR:=List D->Option bA
def Tk(X:Cx)(W:Wsh):Prop:=∀(pins:List (aw×fV)) (U:L2.St) (H:Hp) (s:au) (n:bA) (C a t:aw) (H':Hp) (B:cB) (s':au),Inv X pins U H s->b_ X.K bp n=cz (cz (.ref C))->
 s'.os=s.os->jV s'.gens->Fly X.prog X.w X.stack H s a C t H' B s'.heap->Same H H'->W n U H->X.xe (.ref a) s'
structure XeL (X:Cx) (E:XK):Prop where
 xe:X.xe=λe s'=>aZ (aX X.prog X.w) X.A (leaving X.env e) (λ_ rC=>CXR X.prog X.w X.outer X.H₀ X.s₀ E e rC) (λe' rC=>CXR X.prog X.w X.outer X.H₀ X.s₀ E e' rC) s'
 stk:X.stack=X.env::X.outer
 ex:X.ex=[]
 fr:X.env.frame=cz X.env.locals
 calm:X.calm=yn
def wE(K:ae)(E:XK):Wsh:=λn _ H=>∀C H',b_ K bp n=cz (cz (.ref C))->Same H H'->E (.ref C) xn H'
section
variable {X:Cx}{E:XK}
def c0y(h:XeL X E):Tk X (wE X.K E):=by
 intro pins U H s n C a t H' B s' I hn ho hb x e q;rw[h.xe];have fr:=I.ok.frames;rw[h.stk]at fr;have x':=x;rw[h.stk]at x';refine wpAny_leaves_onW fr h.fr x'.fl λh2 fl up=>?_
 exact⟨a,C,t,H',B,rfl,ho.trans I.os,hb,c0x I h.stk h.ex x fl up,q C H' hn e⟩
def b4E(K:ae)(n:bA)(C:aw):Prop:=b_ K bp n=cz (cz (.ref C))/\PySem.W.excIn K C [.type "ValueError",.type "Exception",.type "BaseException",.type "object"] "ValueError.__new__"=yn
def b4F{K:ae}{mg:bA->Option ak}(p:bu)(m:Mod K mg h)(e:b4E K n C):∃bm N nm q bs hdct sn sub ab col dd k0 k1 k2 k3 k5 mN,h.get? C=cz (excClassObj nm q C N bs bm hdct sn sub ab col dd k0 k1 k2 k3 k5 "ValueError.__new__")/\h.Ns N mN/\mN "__init__"=xn/\OwnTail h [.type "ValueError",.type "Exception",.type "BaseException",.type "object"] bm:=by
 obtain⟨mb,hb,u_⟩:=m.blt;obtain⟨o,es,ep,h1,h2,h3,h4⟩:=m.glob;refine (PySem.W.own_of_in m.kin (p:=p) (loose:=es.toList.map iP.name) ⟨m.glob,hb,m.nolimit,u_,λx _ hx _ _ _=>?_⟩ e.1 e.2).2;rw[<-h4];unfold nsFind findBy;rw[Option.map_eq_none_iff,Array.find?_eq_none];intro e he hq;obtain⟨n,t,k⟩:=h3 e he;rw[k]at hq;exact hx (aJ.mpr ⟨e,gN.mpr he,by unfold iP.name;rw[k];exact (bB hq)⟩)
variable {W:Wsh}{M:List Md}{r r1 r2:EvR}
def tR(K:ae)(W:Wsh)(M:List Md)(r:EvR)(U:L2.St)(H:Hp):Prop:=∃(Z:List D) (P:Hp) (F:List aw) (n:bA),StR K M Z U H P F/\r Z=cz n/\∀U' H' F',StR K M Z U' H' P F'->W n U' H'
def PER(X:Cx)(W:Wsh)(M:List Md)(e:Expr)(r:EvR):Prop:=PE X e λU H _=>tR X.K W M r U H
def PSR(X:Cx)(W:Wsh)(M:List Md)(st:gx)(r:EvR):Prop:=PS X st λ_ U H=>tR X.K W M r U H
def b2k(X:Cx)(W:Wsh)(M:List Md)(lI:List gx)(r:EvR):Prop:=PSs X lI λ_ U H=>tR X.K W M r U H
theorem tR.grow{K:ae}{U:L2.St}{H H1:Hp}{Z:List D}{P:Hp}{F:List aw}{n:bA}(S:StR K M Z U H P F)(h:r Z=cz n)(q:∀U' H' F',StR K M Z U' H' P F'->W n U' H')(e:Same H H1):tR K W M r U H1:=
 ⟨Z,P,F,n,S.grow e,h,q⟩
def a7L{j np cp cJ pos}(h:XeL X E)(hk:b4E X.K x C)(hg:Gl X x:=by rfl)(hd:(x==("__debug__":bA))=yH:=by decide)
  (he:aq [.Constant (.str msg) j cp] X.env=(yH,cD (.Constant (.str msg) j cp) X.env)::aq [] X.env:=by rfl) :
  PSR X (wE X.K E) M (.Raise (cz (.Call (.Name x np) [.Constant (.str msg) j cp] [] cJ)) xn pos) (λ_=>cz x):=by
 rintro pins s U H D I ⟨Z,P,F,n,S,hr,q⟩;cases hr
 have hm:X.mg x=cz (.ref C):=gq I.mod.kin I.mod.glob hk.1;obtain⟨bm,N,nm,qn,bs,hdct,sn,sub,ab,col,dd,k0,k1,k2,k3,k5,mN,hC,hN,hni,T⟩:=b4F X.prog I.mod hk;refine wpAny_Raise_call_subT (C:=C) (nm:=nm) (q:=qn) (N:=N) (bs:=bs) (bm:=bm) (hdct:=hdct) (sn:=sn) (sub:=sub) (ab:=ab) (col:=col) (dd:=dd) (k0:=k0) (k1:=k1) (k2:=k2) (k3:=k3) (k5:=k5)
  PySem.F.excBase_ValueError (mN:=mN) (T.hasType (by decide)) (I.ok.hd h.calm) (by rw[he];rfl) hni (Z9 I hg hm ⟨rfl,?_⟩ hd)
 have pa:=l6 (X:=X) (b2S (x:=msg) (j:=j) (pos:=cp)) o9 he;have go:=pa cJ pins s U H (λvs H'=>vs.length=1/\H'=H) I ⟨rfl,rfl⟩;rw[he]at go ⊢;refine jS (dh go (λus s2 qz=>?_) λ_ _ y=>y);obtain⟨vs,H2,I2,r2,hl,e2⟩:=qz;subst e2;have lu:us.length=1:=by rw[<-r2.length];exact hl
 refine⟨rfl,by show us.length<=bg;rw[lu,cY];decide,I2.bk _ _ hC,hN.keeps I2.bk,T.keeps I2.bk,λh' a mk=>?_⟩;rw[h.xe];have fr:=I2.ok.frames;rw[h.stk]at fr;have Eu:=PySem.W.funFrames_hide (as:=frs X.stack) I2.stack λenv he b hb=>dJ.mpr ⟨env,he,hb⟩
 have wF:=Eu;rw[h.stk]at wF;refine wpAny_leaves_madeW (base:=gf s2.heap (frs X.stack)) (h:=s2.heap) fr h.fr (λb o z=>AG _ z) (by rw[h.stk];exact wF) mk λh2 t fl _ _ up=>?_
 exact⟨a,C,t,H2,_,rfl,I2.os,I2.bare,b4D I2 h.stk h.ex mk rfl fl up,q U H2 F S C H2 hk.1 (Same.refl H2)⟩
def rIf(fc:EvT)(r1 r2:EvR):EvR:=λZ=>(fc Z).bind λb=>if b then r1 Z else r2 Z
def rNo:EvR:=λ_=>xn
def b8z:b2k X W M lI rNo:=λ_ _ _ _ _ _ ⟨_,_,_,_,_,h,_⟩=>nomatch h
def b8A{pos}(hc:PTX X M c0 fc)(ha:b2k X W M a r1)(hb:b2k X W M b r2):PSR X W M (.If c0 a b pos) (rIf fc r1 r2):=by
 obtain⟨tc,pc,qc⟩:=hc.out;rintro pins s U H D I ⟨Z,P,F,n,S,hr,q⟩;refine b8m pc ha hb pins s U H D I ?_;obtain⟨k,h1,h2⟩:=bnd hr;refine qc Z U H P F k _ S.toE h1 λH1 e1=>?_
 cases k with
 |true=>exact a3f (tR.grow S h2 q e1)
 |false=>exact a4E (tR.grow S h2 q e1)
def rOr(r1 r2:EvR):EvR:=λZ=>match r1 Z with
 |some n=>cz n
 |none=>r2 Z
def a0n{st:gx}{rest:List gx}(h:PSR X W M st r):b2k X W M (st::rest) r:=
 Q9 (t:=λ_ U H=>tR X.K W M r U H) (u:=λ_ _ _=>False) h λ_ _ _ _ _ _ z=>z.elim
def spR(K:ae)(n:Nat)(r:List D->Option bA):Sp:=λvs H _ E=>∃ds x,vs.length=n/\DenAll K H vs ds/\r ds=cz x/\wE K E x [] H
structure HasR (P:bu) (w:bV) (K:ae) (mg:bA->Option ak) (base:cB) (x:bA) (k:Nat) (ps:List bA) (sp:Sp):Prop where
 ex:∃f fd,FnOk P w K mg base (CXR P w) k f fd ps sp/\Binds K fd ps []/\fA K (.ref f)=yn/\mg x=cz (.ref f)
def HasR.up{P:bu}{w:bV}{K:ae}{mg:bA->Option ak}{base:cB}{x:bA}{j k:Nat}{ps:List bA}{sp:Sp}(h:HasR P w K mg base x j ps sp)(l:j<=k):HasR P w K mg base x k ps sp:=by
 obtain⟨f,fd,a,b⟩:=h.ex;exact⟨f,fd,a.mono l,b⟩
def rCl(rf:List D->Option bA)(f:EvA):EvR:=λZ=>(f Z).bind rf
def a7M(hT:Tk X W)(h:HasR X.prog X.w X.K X.mg X.base x k ps (spR X.K n rf))(hr:Room k X.A)(ha:PAX X M (e0::es) f)(hl:(e0::es).length=n:=by rfl)(hfl:∀Z ds,f Z=cz ds->ds.length=(e0::es).length)
  (hg:Gl X x:=by rfl) (lM:(x==("__debug__":bA))=yH:=by decide) (he:aq (e0::es) X.env=(yH,cD e0 X.env)::aq es X.env:=by rfl) (gn:(cy pos (aq es X.env)).any (·.1)=yH:=by rfl) :
  PER X W M (.Call (.Name x p) (e0::es) [] pos) (rCl rf f):=by
 obtain⟨fa,fd,FF,b,kp,m⟩:=h.ex;obtain⟨t,pa,qa⟩:=ha;rintro pins s U H Q I ⟨Z,P,F,y,S,hf,q⟩;obtain⟨ds,h1,h2⟩:=bnd hf;refine fH (Z9 I hg m ?_ lM);have go:=pa pos pins s U H (λvs H1=>DenAll X.K H1 vs ds/\Same H H1) I (qa Z U H P F ds _ S.toE h1 λvs H1 e1 r1=>⟨r1,e1⟩);refine nE (h₀:=X.base) I.ok.mod.kin kp (L2.thn go λus s1 ⟨vs,H1,I1,r,r1,e1⟩=>⟨I1.kIn,?_⟩) he gn;have lv:vs.length=ps.length:=by
  have:=FF.len vs H1 (λ_ _=>True) (λ_ _ _=>True) ⟨ds,y,by rw[r1.length,hfl Z ds h1,hl],r1,h2,λ_ _ _ _=>trivial⟩;exact this
 have lu:(us++[]).length=ps.length:=by rw[bj,<-r.length];exact lv
 refine mz (gH (FF.run X.A X.stack s1 H1 ⟨us,[]⟩ us vs (λ_ _=>False) (λc _ H'=>∃C,c=.ref C/\b_ X.K bp y=cz (cz (.ref C))/\Same H1 H') hr I1.env0 (by have:=b s1 us I1.kIn lu;rwa[bj]at this) r ⟨ds,y,by rw[r1.length,hfl Z ds h1,hl],r1,h2,λC H' hn hs=>⟨C,rfl,hn,hs⟩⟩) λrr s' hq=>?_);cases rr with
 |error e=>
  obtain⟨a,C,t,H',B,rfl,ho,hb,x,C',ec,hn,hs⟩:=hq;cases ec
  exact hT pins U H1 s1 y C a t H' B s' I1 hn ho hb x hs (q U H1 F (S.grow e1))
 |ok fl=>
  cases fl with
  |ret u=>
   obtain⟨_,_,_,_,_,_,_,z⟩:=hq;exact z.elim
  |next=>exact cx hq
  |brk=>exact cx hq
  |cont=>exact cx hq
def b0o{pos:fS}(h:PER X W M e r)(hs:eR e xn pos.line X.env=pure yH:=by rfl):PSR X W M (.Expr e pos) r:=P3 (te:=λU H _=>tR X.K W M r U H) h hs
end
def fnR(us:List Ty)(n:Nat)(r:EvR):List D->Option bA:=λds=>if argsOk us ds then r (ds++aP n .none) else xn
def Inv.unbound{h':cB}(I:Inv X pins U H s)(hN:X.N.Nodup)(hi:X.N[j]?=cz x)(hn:s.heap.Ns X.env.locals m)
  (hl:∀(i:Nat) (x:bA) (v:V),X.N[i]?=cz x->U[i]?=cz (cz v)->Vis X.env.scope x->∃u,RelV v u/\Look X.env s.heap m x u)
  (tY:h'.Ns X.env.locals (λy=>if y=x then u else m y)) (hs:kB X.env.locals s.heap h'):Inv X pins (U.set j xn) H {s with heap:=h',toks:=tk}:=by
 have cne:=I.cne;have rN:j<U.length:=by rw[I.len];exact (aO.mp hi).1
 have tracked:HOk X.prog X.w H h':=λb ob e=>by
  refine (I.hok b ob e).stay (λc w' hc q=>(hs.2 c ?_).trans q) (λ_ q=>q) λ_ _ q=>q
  rintro rfl;have lz:=I.free;rcases hc with rfl|hc
  ·rw[lz]at e;cases e
  ·rw[lz]at hc;cases hc
 refine⟨I.ok,I.os,I.bare,⟨λb o e n hb hx=>?_,λb o e n hb hx=>?_,I.base.free,λb o e hx=>?_,I.base.tups,I.base.frzs,I.base.tbls⟩,⟨_,tY,λi y v' e1 e2 e3=>?_⟩,λy c e=>?_,I.free,I.freeC,λp hp=>?_,tracked,by simpa using I.len⟩
 ·exact (hs.2 b (bI (bb (aS e) I.ok.above))).trans (I.base.keep b o e n hb hx)
 ·obtain⟨sl,e1⟩:=I.base.slot b o e n hb hx;exact⟨sl,(hs.2 b (bI (bb (aS e) I.ok.above))).trans e1⟩
 ·obtain⟨o',e1⟩:=I.base.there b o e hx;exact⟨o',(hs.2 b (bI (bb (aS e) I.ok.above))).trans e1⟩
 ·by_cases hj:i=j
  ·subst hj;rw[dM rN]at e2;cases e2
  ·rw[bF (cV hj)]at e2;obtain⟨u',r',q⟩:=hl i y v' e1 e2 e3;refine⟨u',r',?_⟩;rcases q with⟨k,e⟩|⟨k,c,e,z⟩
   ·refine .inl ⟨k,?_⟩;have:y≠x:=λe=>hj (a2X hN e1 (e▸hi))
    simp[this,e]
   ·exact .inr ⟨k,c,e,z.sameBut hs (cne y c e)⟩
 ·obtain⟨w',z⟩:=I.cell y c e;exact⟨w',z.sameBut hs (cne y c e)⟩
 ·obtain⟨e,n,ne,nf,d⟩:=I.pin p hp;exact⟨(hs.2 p.1 ne).trans e,n,ne,nf,d⟩
abbrev Cx.hand(X:Cx)(a:aw)(E:ak->au->Prop):Cx:={X with A:=X.A.mark (cz (.ref a)),calm:=yH,xe:=E}
theorem Inv.hand(I:Inv X pins U H s)(a:aw)(E:ak->au->Prop):Inv (Cx.hand X a E) pins U H s:=
 let ok:=I.ok
 ⟨⟨ok.mod,ok.kind,ok.glob,ok.blt,ok.above,ok.inj,ok.has,ok.cab,λz=>(nomatch z),ok.frames,ok.stk,ok.exf,ok.bs,ok.bsz,ok.noex,ok.exfs,ok.funs,ok.frf,ok.tabs⟩,I.os,I.bare,I.base,I.loc,I.cell,I.free,I.freeC,I.pin,I.hok,I.len⟩
def Inv.unhand{X:Cx}(ok:X.Ok)(I:Inv (Cx.hand X a E) pins U H s):Inv X pins U H s:=
 ⟨ok,I.os,I.bare,I.base,I.loc,I.cell,I.free,I.freeC,I.pin,I.hok,I.len⟩
abbrev Cx.trial(X:Cx)(pn:List (aw×fV))(E:ak->au->Prop):Cx:={X with pn:=pn,xe:=E}
theorem Inv.trial(I:Inv X pins U H s)(E:ak->au->Prop):Inv (Cx.trial X (X.pn++pins) E) [] U H s:=
 let ok:=I.ok
 ⟨⟨ok.mod,ok.kind,ok.glob,ok.blt,ok.above,ok.inj,ok.has,ok.cab,ok.hd,ok.frames,ok.stk,ok.exf,ok.bs,ok.bsz,ok.noex,ok.exfs,ok.funs,ok.frf,ok.tabs⟩,I.os,I.bare,I.base,I.loc,I.cell,I.free,I.freeC,λp hp=>I.pin p (by simpa using hp),I.hok,I.len⟩
def Inv.untrial{X:Cx}(ok:X.Ok)(I:Inv (Cx.trial X (X.pn++pins) E) jZ U H s):Inv X pins U H s:=
 ⟨ok,I.os,I.bare,I.base,I.loc,I.cell,I.free,I.freeC,λp hp=>I.pin p (ao _ hp),I.hok,I.len⟩
section
variable {K:ae}{M:List Md}{Z:List D}{U:L2.St}{H P:Hp}{F:List aw}
def StR.setExc(h:StR K M Z U H P F)(hm:M[i]?=cz m)(hv:SlotR K H F .exc (cz v) d []):StR K (M.set i .exc) (Z.set i d) (U.set i (cz v)) H P F:=by
 obtain⟨G,h1,h2,h3⟩:=h.all;obtain⟨d0,o0,f,pre,post,e1,e2,e3,e4,e5⟩:=h1.at_ hm;rw[e4]at h2;exact⟨⟨pre++([]++post),e5 H F .exc d (cz v) [] (λ_ _=>rfl) (Same.refl _) hv,N7 h2,λa ha=>h3 a (by rw[e4];exact mem_mid ha)⟩,h.lst,h.prot⟩
end
def a3S(K:ae)(C0:aw)(n:bA):Bool:=match b_ K bp n with
 |some (cz (.ref C))=>PySem.W.exmOne K (.ref C) (.ref C0)==cz yn
 |_=>yH
def a3T{s s':au}(I:Inv X pins U H s)(ho:s'.os=s.os)(hb:jV s'.gens)(x:Fly X.prog X.w X.stack H s a C t H' B h6) :
  Inv X pins U (upd H' a (ExcAt a C)) {s' with heap:=h6}:=by
 have nt:∀c u,H' c=cz u->c≠a:=λc u q z=>by rw[z,x.na]at q;cases q
 refine I.call' (s':={s' with heap:=h6}) ho ⟨x.un.keep,x.un.slot,λb o q n hx=>?_,x.un.there,λb xs q=>?_,λb o u q=>?_,λb ps q=>?_⟩ (λb u q=>?_) hb λb z=>(nomatch z)
 ·rw[c9 (λz=>by rw[z,x.new]at q;cases q)];exact x.un.free b o q n hx
 ·have q':=x.un.tups b xs q;rw[c9 (nt b _ q')];exact q'
 ·have q':=x.un.frzs b o u q;rw[c9 (nt b _ q')];exact q'
 ·obtain⟨mm,q'⟩:=x.un.tbls b ps q;exact⟨mm,by rw[c9 (nt b _ q')];exact q'⟩
 ·by_cases ur:b=a
  ·subst ur;rw[i6]at q;cases q
   obtain⟨ob,h1,h2⟩:=x.fl.there;exact⟨⟨ob,h1,h2⟩,⟨ob,h1⟩,λh1 h2 ⟨o,e1,e2⟩ k=>⟨o,k o e1,e2⟩⟩
  ·rw[c9 ur]at q;exact (x.hok b u q).stay (λ_ _ _ z=>z) (λc z=>by rw[c9 (nt c _ z)];exact z) λc xs z=>by rw[c9 (nt c _ z)];exact z
end VS
namespace PySem.W
open PySem.Spec PySem.Calls PyProof.Rows Builtin Builtin.ObjectAttr Builtin.Getset_descriptor
section
variable {prog:bu}{w:bV}{A:bP}{E:ak->au->Prop}{s:au}{K:Frag}{a C:aw}{o:fV}
def Y5{h:cB}(hx:h.get? a=cz o)(hc:o.cls=.ref C):Looks M h (typeOf (.ref a)) (.ref C):=hc▸(Looks.ld hx).andThen .now
def a4N(X:K.In s.heap)(hx:s.heap.get? a=cz o)(hc:o.cls=.ref C)(hm:mroIn K C (.type "object")=cz yn)
  (h:R (.ok (.ret (.ref C))) s):gQ (aX prog w) A (.call (.builtin "getset_descriptor.__get__") ⟨[.builtin "object.__class__",.ref a,tp],[]⟩) R s:=by
 obtain⟨hh,g,dr,t,os⟩:=s;have L0:=Y5 (M:=aX prog w) hx hc;have L1:=looks_mroIn (M:=aX prog w) X hm;refine codeAny_call_builtin KF.slot_gs.plain KF.entry_gs (KF.slot_gs.check _ _ _ _ _ _ _ _ KF.type_class (KF.args_gs _ _ _) ?_);unfold Builtin.«getset_descriptor.__get__» descrGet;rw[dga_obj];refine af (aC ?_);unfold descrGetter descrCheckInstance descrNameAndClass isInstance;simp only[KF.owner_class]
 repeat lk
 refine⟨Code.quiet_builtin _ (by decide +kernel),uA KF.entry_class ?_⟩;unfold Builtin.«object.__class__» shownTypeOf
 repeat lk
 exact h
def b2l(X:K.In s.heap)(hx:s.heap.get? a=cz o)(hc:o.cls=.ref C)(hb:subIn K (.ref C) (.type "BaseException")=cz yn)(hq:Q () s) :
  aZ M A (checkBuiltinCall "BaseException.__getattribute__" ⟨[.ref a,vE],[]⟩) Q E s:=by
 obtain⟨hh,g,dr,t,os⟩:=s;have L0:=Y5 (M:=M) hx hc;have L1:=looks_subIn (M:=M) X hb;have hk:builtinKind "BaseException.__getattribute__"=cz .slot:=by decide +kernel
 have tO:splitId "BaseException.__getattribute__"=cz ("BaseException","__getattribute__"):=by decide +kernel
 have ha:=F.args_bexc_ga (.ref a) vE;simp only[checkBuiltinCall,hk,tO];refine af ?_;unfold isInstance;refine af (L0.at ?_);refine L1.at ?_
 repeat (any_goals (first|assumption|wp_step))
def b2m(X:K.In s.heap)(hx:s.heap.get? a=cz o)(hc:o.cls=.ref C)(ha:findIn K (.ref C) "__class__"=cz (cz (.builtin "object.__class__")))
  (hm:mroIn K C (.type "object")=cz yn) (hq:Q (.done (.ret (.ref C))) s) :
  aZ (aX prog w) A (Builtin.«object.__getattribute__» ⟨[.ref a,.str "__class__" tk],[]⟩) Q E s:=by
 obtain⟨hh,g,dr,t,os⟩:=s;have L0:=Y5 (M:=aX prog w) hx hc;have L1:=looks_findIn (M:=aX prog w) X ha;have Gz:(⟨hh,g,dr,t,os⟩:au).TypeIs (.builtin "object.__class__") "getset_descriptor":=GX;have f5:=GX;have f6:=F.slot_gs_get.lookup;have f7:=F.slot_gs_set.lookup
 repeat (any_goals (first|assumption|(with_reducible refine wpAny_loadPart_at hx ?_;rw[hc])|with_reducible refine Looks.at L1 ?_|wp_step))
 refine a4N X hx hc hm ?_
 repeat (any_goals (first|assumption|wp_step))
def a3U(X:K.In s.heap)(hx:s.heap.get? a=cz o)(hc:o.cls=.ref C)(zO:findIn K (.ref C) "__getattribute__"=cz (cz (.builtin "BaseException.__getattribute__")))
  (wB:findIn K (.ref C) "__getattr__"=cz xn) (ha:findIn K (.ref C) "__class__"=cz (cz (.builtin "object.__class__"))) (hm:mroIn K C (.type "object")=cz yn) (hb:subIn K (.ref C) (.type "BaseException")=cz yn)
  (h:Q (cz (.ref C)) {s with toks:=s.toks+1}):aZ (aX prog w) A (getAttr? (.ref a) "__class__") Q E s:=by
 obtain⟨hh,g,dr,t,os⟩:=s;have L0:=Y5 (M:=aX prog w) hx hc;have L1:=looks_findIn (M:=aX prog w) X zO;have L2:=looks_findIn (M:=aX prog w) X wB;have f3:=s_.ga.bind (.ref a);unfold getAttr? getAttrBy? getAttrBy;refine af (wpAny_mkText (af (jF (c_ (af (L0.at (af (L1.at ?_))))))));show aZ _ _ (getAttrByItsOwn _ _ _ _ _ _) _ _ _;unfold getAttrByItsOwn hookBefore;refine af (L2.at (af (jF (c_ ?_))));show aZ _ _ (boundAndCalled _ _ _) _ _ _;unfold boundAndCalled;rw[f3];refine af (aC ?_);refine mz (codeAny_call_builtin s_.ga.plain F.entry_bexc_ga (b2l X hx hc hb (b2m X hx hc ha hm ?_)));exact handed_on rfl (aC h)
def kitx_exc(pI:(clsIn K C).isSome=yn)(zO:findIn K (.ref C) "__getattribute__"=cz (cz (.builtin "BaseException.__getattribute__")))
  (wB:findIn K (.ref C) "__getattr__"=cz xn) (ha:findIn K (.ref C) "__class__"=cz (cz (.builtin "object.__class__"))) (hm:mroIn K C (.type "object")=cz yn) (hb:subIn K (.ref C) (.type "BaseException")=cz yn) :
  KitX K (.ref a) (.ref C) (λh=>∃o,h.get? a=cz o/\o.cls=.ref C) where
 ty:=λ_ _ _ ⟨_,h1,h2⟩=>Y5 h1 h2
 it:=λ_ _ X _=>by
  obtain⟨Fx,um⟩:=fO.mp pI;unfold clsIn at um
  split at um
  ·rename_i c' d' Fy uN ho
   intro A' Q' E' s' k q;unfold isType loadHead;exact af (wpAny_loadPart (k _ _ (X _ _ ho)) (aC q))
  ·cases um
 ne:=λh tp dd its n sl X Dz=>by
  obtain⟨Fx,um⟩:=fO.mp pI;refine eU.mpr λq=>?_
  have e:C=tp:=bL.inj (ny.mp q);subst e;unfold clsIn at um
  split at um
  ·rename_i c' d' Fy uN ho
   have z:=(X _ _ ho).symm.trans Dz;cases z
  ·cases um
 ca:=λX ⟨_,h1,h2⟩ k=>a3U X h1 h2 zO wB ha hm hb k
end
end PySem.W
namespace VS
open PySem.Spec L2 PyProof.Rows
def c0z(K:ae)(n:bA):Bool:=match b_ K bp n with
 |some (cz (.ref C))=>(PySem.W.clsIn K C).isSome&&fR K (.ref C) "__getattribute__" == cz (cz (.builtin "BaseException.__getattribute__"))&&fR K (.ref C) "__getattr__" == cz xn
   && fR K (.ref C) "__class__" == cz (cz (.builtin "object.__class__"))&&PySem.W.mroIn K C (.type "object")==cz yn&&PySem.W.subIn K (.ref C) (.type "BaseException")==cz yn
 |_=>yH
def c0A(K:ae)(c:ak)(f:bA->Bool)(n:bA):Bool:=match b_ K bp n with
 |some (cz (.ref C))=>dS K (.ref C) c==cz (f n)
 |_=>yH
def Y6(L:List bA)(i:Nat)(f:bA->Bool):EvE:=λZ=>match Z.getD i (.bool yn) with
 |.none=>cz (.bool yH)
 |.str n=>if L.contains n then cz (.bool (f n)) else xn
 |_=>xn
def StE.getExc{K:ae}{M:List Md}{Z:List D}{U:L2.St}{H P:Hp}{F:List aw}{i:Nat}(h:StE K M Z U H P F)(hm:M[i]?=cz .exc) :
  ∃v,U[i]?=cz (cz v)/\((v=.non/\Z.getD i (.bool yn)=.none)\/∃a C n,v=.ref a/\Z.getD i (.bool yn)=.str n/\H a=cz (ExcAt a C)/\b_ K bp n=cz (cz (.ref C))):=by
 obtain⟨G,h1,h3⟩:=h.all;obtain⟨d,o,f,pre,post,e1,e2,⟨_,v,rfl,q⟩,e4,_⟩:=h1.at_ hm;refine⟨v,e2,?_⟩;rw[B7 e1];exact q.imp (λz=>z) λ⟨a,C,n,z1,z2,z3,z4⟩=>⟨a,C,n,z1,z2,k7 _ _ z3,z4⟩
structure ExcN (K:ae) (c:ak) (L:List bA) (f:bA->Bool):Prop where
 ok:L.all (λn=>c0z K n&&c0A K c f n)=yn
 non:dS K (.type "NoneType") c=cz yH
def c3F(K:ae)(L:List bA)(f:bA->Bool)(cv:V):List V->Hp->VK->Prop:=λvs H Q=>∃x b,vs=[x,cv]/\((x=.non/\b=yH)\/∃a C n,x=.ref a/\H a=cz (ExcAt a C)/\b_ K bp n=cz (cz (.ref C))/\n∈L/\b=f n)/\Q (.bl b) H
def b4G{X:Cx}(wN:∀u,RelV cv u->u=c)(hN:ExcN X.K c L f):CallR X (.builtin "isinstance") (c3F X.K L f cv):=by
 rintro pins s U H xs us Q I r ⟨x,b,e,hx,q⟩;subst e;cases r with
 |cons r1 r2=>
  cases r2 with
  |cons r2 r3=>
   cases r3
   cases wN _ r2
   rcases hx with⟨rfl,rfl⟩|⟨a,C,n,rfl,ha,hn,hm,rfl⟩
   ·exact a4V I r1 .non hN.non λtk=>⟨.bl yH,H,I.tok tk,rfl,q⟩
   ·have k:=dN.mp hN.ok n hm;rw[aD]at k;have k1:=k.1;have k2:=k.2;unfold c0z at k1;unfold c0A at k2;rw[hn]at k1 k2;simp only[aD,ny]at k1 k2;obtain⟨⟨⟨⟨⟨y1,y2⟩,y3⟩,y4⟩,y5⟩,y6⟩:=k1;cases (show _=bL a from r1)
    exact cU (PySem.W.kitx_exc y1 y2 y3 y4 y5 y6) I.kIn (I.hok a _ ha).1 k2 (λz=>nomatch z) λtk=>⟨.bl (f n),H,I.tok tk,rfl,q⟩
section
variable {X:Cx}{M:List Md}{L:List bA}{f:bA->Bool}{x y:bA}{px py p pos:fS}
def a3V(i:Nat){cv:V}{c:ak}(wN:∀u,RelV cv u->u=c)(hN:ExcN X.K c L f)(hm:X.mg "isinstance"=xn)(hc:PE X (.Name y py) (tC cv))
  (xa:X.N[i]?=cz x) (hv:Vis X.env.scope x) (qN:M[i]?=cz .exc) (hd:(x==("__debug__":bA))=yH) (kU:(x==("__classdict__":bA))=yH)
  (hg:Gl X "isinstance") (he:aq [.Name x px,.Name y py] X.env=(yH,cD (.Name x px) X.env)::aq [.Name y py] X.env) (nX:aq [.Name y py] X.env=(yH,cD (.Name y py) X.env)::aq [] X.env) (gn:(cy pos (aq [.Name y py] X.env)).any (·.1)=yH) :
  PX X M (.Call (.Name "isinstance" p) [.Name x px,.Name y py] [] pos) (Y6 L i f) (.new .i):=by
 refine .mk ⟨_,a0Z (b4G wN hN) hg hm PyProof.Rows.Boot.«isinstance» (l6 (A5 xa hv hd kU) (l6 hc o9 nX) he) (by decide) (by decide) he gn,λZ U H P F d Q S mU q=>?_⟩;obtain⟨v,e,hx⟩:=S.getExc qN;have fin:∀b,d=.bool b->Q (.bl b) H:=λb hb=>by
  subst hb;exact q _ H (Same.refl H) (I9 (by simp only[imm]) den_bool (S.lst' (Same.refl H)))
 unfold Y6 at mU;rcases hx with⟨rfl,hZ⟩|⟨a,C,n,rfl,hZ,ha,hn⟩
 ·rw[hZ]at mU;cases mU
  exact⟨.non,e,⟨.non,yH,rfl,.inl ⟨rfl,rfl⟩,fin yH rfl⟩⟩
 ·rw[hZ]at mU;by_cases hl:L.contains n=yn
  ·have oH:(if L.contains n=yn then cz (cK (f n)) else xn)=cz d:=mU;rw[aE hl]at oH;cases oH
   exact⟨.ref a,e,⟨.ref a,f n,rfl,.inr ⟨a,C,n,rfl,ha,hn,by simpa using hl,rfl⟩,fin _ rfl⟩⟩
  ·have oH:(if L.contains n=yn then cz (cK (f n)) else xn)=cz d:=mU;rw[aM hl]at oH;cases oH
def L8(i:Nat)(hN:ExcN X.K (.ref C) L f)(hm:X.mg "isinstance"=xn)(hy:X.mg y=cz (.ref C))(qN:M[i]?=cz .exc:=by rfl)
  (xa:X.N[i]?=cz x:=by rfl) (hv:Vis X.env.scope x:=by first|exact dW rfl|exact gW (dW rfl)|exact gW (gW rfl)) (hd:(x==("__debug__":bA))=yH:=by decide) (kU:(x==("__classdict__":bA))=yH:=by decide)
  (hg:Gl X "isinstance":=by rfl) (rO:Gl X y:=by rfl) (rP:(y==("__debug__":bA))=yH:=by decide)
  (he:aq [.Name x px,.Name y py] X.env=(yH,cD (.Name x px) X.env)::aq [.Name y py] X.env:=by rfl) (nX:aq [.Name y py] X.env=(yH,cD (.Name y py) X.env)::aq [] X.env:=by rfl) (gn:(cy pos (aq [.Name y py] X.env)).any (·.1)=yH:=by rfl) :
  PX X M (.Call (.Name "isinstance" p) [.Name x px,.Name y py] [] pos) (Y6 L i f) (.new .i):=
 a3V i (cv:=.ref C) (λu r=>r) hN hm (a5P rO hy rfl rP) xa hv qN hd kU hg he nX gn
def c0B(i:Nat)(hN:ExcN X.K (.type T) L f)(hm:X.mg "isinstance"=xn)(hy:X.mg y=xn)(hb:fQ y=cz (.type T))(qN:M[i]?=cz .exc:=by rfl)
  (xa:X.N[i]?=cz x:=by rfl) (hv:Vis X.env.scope x:=by first|exact dW rfl|exact gW (dW rfl)|exact gW (gW rfl)) (hd:(x==("__debug__":bA))=yH:=by decide) (kU:(x==("__classdict__":bA))=yH:=by decide)
  (hg:Gl X "isinstance":=by rfl) (rO:Gl X y:=by rfl) (zt:y≠"__name__":=by decide) (rP:(y==("__debug__":bA))=yH:=by decide)
  (he:aq [.Name x px,.Name y py] X.env=(yH,cD (.Name x px) X.env)::aq [.Name y py] X.env:=by rfl) (nX:aq [.Name y py] X.env=(yH,cD (.Name y py) X.env)::aq [] X.env:=by rfl) (gn:(cy pos (aq [.Name y py] X.env)).any (·.1)=yH:=by rfl) :
  PX X M (.Call (.Name "isinstance" p) [.Name x px,.Name y py] [] pos) (Y6 L i f) (.new .i):=
 a3V i (cv:=.ty T) (λu r=>r) hN hm (a9O rO hy hb rfl zt rP) xa hv qN hd kU hg he nX gn
end
section
variable {X:Cx}{E:XK}{W:Wsh}{M M':List Md}{r r1 r2:EvR}
def tQ(K:ae)(W:Wsh)(M:List Md)(r:EvR)(U:L2.St)(H:Hp):Prop:=∃(Z:List D) (P:Hp) (F:List aw) (n:bA),StR K M Z U H P F/\r Z=cz n/\∀M' Z' U' H' F',StR K M' Z' U' H' P F'->W n U' H'
def a9f(X:Cx)(W:Wsh)(M:List Md)(lI:List gx)(r:EvR):Prop:=PSs X lI λ_ U H=>tQ X.K W M r U H
def b4H(h:b2k X W M lI r):a9f X W M lI r:=λpins s U H D I ⟨Z,P,F,n,S,hr,q⟩=>h pins s U H D I ⟨Z,P,F,n,S,hr,λU' H' F' S'=>q M Z U' H' F' S'⟩
def a5v(f:EvS)(r:EvR):EvR:=λZ=>(f Z).bind λo=>match o with
 |.nx Z'=>r Z'
 |_=>xn
def a6w{u:Ty}{ML:List Md}{st:gx}{rest:List gx}{f:EvS}(h1:PSX X u ML M st f M')(h:a9f X W M' rest r):a9f X W M (st::rest) (a5v f r):=by
 rintro pins s U H D I ⟨Z,P,F,n,S,hr,q⟩;obtain⟨o,h2,h3⟩:=bnd hr;cases o with
 |nx Z'=>exact Q9 (t:=spS X.K u ML M f M') (u:=λ_ U H=>tQ X.K W M' r U H) h1 h pins s U H D I ⟨Z,P,F,.nx Z',S,h2,λU' H' F' S'=>⟨Z',P,F',n,S',h3,q⟩⟩
 |_=>cases h3
def c2i(h1:a9f X W M lI r1)(h2:a9f X W M lI r2):a9f X W M lI (rOr r1 r2):=by
 rintro pins s U H D I ⟨Z,P,F,n,S,hr,q⟩;unfold rOr at hr
 split at hr
 ·next m hm=>
  cases hr
  exact h1 pins s U H D I ⟨Z,P,F,n,S,hm,q⟩
 ·exact h2 pins s U H D I ⟨Z,P,F,n,S,hr,q⟩
end
def a7N(L:List bA)(j:Nat)(g:EvS)(r:EvR)(gh:EvS):EvS:=λZ=>match r Z with
 |some n=>if L.contains n then (gh (Z.set j (.str n))).bind λo=>match o with
  |.rt d=>cz (.rt d)
  |_=>xn else xn
 |none=>(g Z).bind λo=>match o with
  |.nx Z'=>cz (.nx Z')
  |_=>xn
def b7A{X:Cx}{L:List bA}(j:Nat)
  (mS:X.stack=X.env::X.outer) (nM:X.env.frame=cz X.env.locals) (hN:X.N.Nodup)
  (hb:PSsX X.nox u ML M body g M) (hr:∀pn E W,Tk (Cx.trial X pn E) W->b2k (Cx.trial X pn E) W M body r) (hh:∀a,PSsX (Cx.hand X a λ_ _=>False) u ML (M.set j .exc) (xM::DB) gh M')
  (sD:b_ X.K bp x0=cz (cz (.ref C0))) (hL:L.all (a3S X.K C0)=yn)
  (hj:X.N[j]?=cz en:=by rfl) (wg:X.env.scope.names.lookup en=cz .local:=by rfl) (sJ:M[j]?=cz mj:=by rfl)
  (hg:Gl X x0:=by rfl) (hd:(x0==("__debug__":bA))=yH:=by decide) :
  PSX X u ML M (.Try body [.ExceptHandler (cz (.Name x0 np)) (cz en) (xM::DB) oP] [] [] pos) (a7N L j g r gh) M:=by
 rintro pins s U H D I ⟨Z,P,F,o,S,oG,k⟩;refine wpAny_Try_except ?_;unfold a7N at oG;cases zb:r Z with
 |none=>
  rw[zb]at oG;obtain⟨o1,h2,h3⟩:=bnd oG;cases o1 with
  |nx Z'=>
   cases h3
   have run:=hb pins s U H {nx:=λU' H'=>∃F',StR X.K M Z' U' H' P F',rt:=λ_ _=>False} (I.wish _) ⟨Z,P,F,.nx Z',S,h2,λU' H' F' S'=>⟨F',S'⟩⟩;refine dh run (λf s1 h=>?_) λ_ _ z=>z.elim
   cases f with
   |next=>
    obtain⟨U',H',I',F',S'⟩:=h;exact jW ⟨U',H',I'.unwish,k U' H' F' S'⟩
   |brk=>obtain⟨_,_,_,z⟩:=h;exact z.elim
   |cont=>obtain⟨_,_,_,z⟩:=h;exact z.elim
   |ret w=>obtain⟨_,_,_,_,_,z⟩:=h;exact z.elim
  |_=>cases h3
 |some n=>
  rw[zb]at oG
  dsimp only at oG
  by_cases hc:L.contains n=yn
  ·have zN:(gh (Z.set j (.str n))).bind _=cz o:=(aE hc).symm.trans oG;obtain⟨o1,Em,h3⟩:=bnd zN;cases o1 with
   |rt d=>
    cases h3
    have iK:n∈L:=by simpa using hc
    have hex:∃C,b_ X.K bp n=cz (cz (.ref C))/\PySem.W.exmOne X.K (.ref C) (.ref C0)=cz yn:=by
     have:=dN.mp hL n iK;unfold a3S at this
     split at this
     ·next C hC=>exact⟨C,hC,ny.mp this⟩
     ·cases this
    let E1:ak->au->Prop:=λe s1=>∃(U1:L2.St) (H1:Hp) (s0:au) (C a t:aw) (H2:Hp) (B:cB) (F1:List aw),e=.ref a/\Inv X pins U1 H1 s0/\b_ X.K bp n=cz (cz (.ref C))/\s1.os=s0.os/\jV s1.gens/\Fly X.prog X.w X.stack H1 s0 a C t H2 B s1.heap/\Same H1 H2/\StR X.K M Z U1 H1 P F1
    have tk:Tk (Cx.trial X (X.pn++pins) E1) (λn' U1 H1=>n'=n/\∃F1,StR X.K M Z U1 H1 P F1):=λjZ U1 H1 s0 n' C a t H2 B s1 I0 hn xQ ur x e ⟨DM,F1,S1⟩=>by
     subst DM;exact⟨U1,H1,s0,C,a,t,H2,B,F1,rfl,Inv.untrial I.ok I0,hn,xQ,ur,x,e,S1⟩
    have run:=hr (X.pn++pins) E1 _ tk [] s U H {nx:=λ_ _=>False,rt:=λ_ _=>False} (Inv.trial I E1) ⟨Z,P,F,n,S,zb,λU' H' F' S'=>⟨rfl,F',S'⟩⟩;refine dh run (λf s1 h=>?_) λe s1 h=>?_
    ·cases f with
     |next=>obtain⟨_,_,_,z⟩:=h;exact z.elim
     |brk=>obtain⟨_,_,_,z⟩:=h;exact z.elim
     |cont=>obtain⟨_,_,_,z⟩:=h;exact z.elim
     |ret w=>obtain⟨_,_,_,_,_,z⟩:=h;exact z.elim
    obtain⟨U1,H1,s0,C,a,t,H2,B,F1,rfl,I0,hn,xQ,ur,x,Cg,S1⟩:=h;obtain⟨C',BY,zT⟩:=hex;rw[hn]at BY;cases BY
    have fr:=I0.ok.frames;rw[mS]at fr;have x':=x;rw[mS]at x';refine wpAny_looks_onW fr nM x'.fl λh4 held CJ=>?_
    refine wpAny_landsW held λh5 Au CI=>?_
    have As:kC B X.stack a (.ref C) (.ref t) h5:=by rw[mS];exact Au
    have x5:=x.step As (CJ.trans CI);have I5:=a3T (s':=s1) I0 xQ ur x5;have FP:Inv (Cx.hand X a (notedBy (aX X.prog X.w) (X.A.mark (cz (.ref a))) X.env (cameBackBy (aX X.prog X.w) X.A X.env X.xe))) pins U1 (upd H2 a (ExcAt a C)) {s1 with heap:=h5}:=Inv.hand I5 a _;have zB:X.mg x0=cz (.ref C0):=gq I.mod.kin I.mod.glob sD;obtain⟨ob,zr,zq⟩:=Au.there;refine wpAny_handleBy_cons (codeAny_handlers_test (Z9 FP hg zB ?_ hd)) (by intro q;cases q);have LT:PySem.W.Looks (aX X.prog X.w) h5 (typeOf (.ref a)) (.ref C):=zq▸(FH zr).andThen .now;refine (PySem.W.exm_one I5.kIn LT zT).here ?_;refine codeAny_handlers_suite_as ?_;refine lands_againW Au λh6 Ff CH=>?_
    have Ar:kC B X.stack a (.ref C) (.ref t) h6:=by rw[mS];exact Ff
    have x6:=x5.step Ar CH;have I6:=a3T (s':=s1) I0 xQ ur x6;refine W7 I6 hN hj (.inl wg) (v:=.ref a) (u:=.ref a) rfl (λs7 I7=>?_) (.inr wg);have eu:Same H2 (upd H2 a (ExcAt a C)):=λb o q=>by
     rw[c9 (λz=>by rw[z,x.na]at q;cases q)];exact q
    have nF:a∉F1:=λz=>by
     obtain⟨ys,q⟩:=S1.lst a z;have:=Cg _ _ q;rw[x.na]at this;cases this
    have S7:=(S1.grow (Cg.trans eu)).setExc sJ (v:=.ref a) (d:=.str n) ⟨rfl,.ref a,rfl,.inr ⟨a,C,n,rfl,rfl,j7 nF i6,hn⟩⟩;have yz:=hh a pins s7 (U1.set j (cz (.ref a))) (upd H2 a (ExcAt a C)) {nx:=λ_ _=>False,rt:=D.rt} (Inv.hand I7 a _) ⟨_,P,F1,.rt d,S7,Em,k⟩;refine dh yz (λf s8 h=>?_) λ_ _ z=>z.elim
    cases f with
    |ret w=>
     obtain⟨v8,U8,H8,I8,r8,e8⟩:=h;have Cu:=Inv.unhand I0.ok I8;obtain⟨m,qy,Bz⟩:=id Cu.loc;have uj:(X.env.scope.kind==.class||(X.env.scope.kind==.module&&X.env.locals !=X.env.globals))=yH:=by rw[I0.ok.kind];rfl
     refine wpAny_nameGoes_keeps wg qy uj λh9 v Dc sb=>?_
     exact⟨v8,_,H8,Inv.unbound Cu hN hj qy Bz Dc sb,r8,e8⟩
    |brk=>obtain⟨_,_,_,z⟩:=h;exact z.elim
    |cont=>obtain⟨_,_,_,z⟩:=h;exact z.elim
    |next=>obtain⟨_,_,_,z⟩:=h;exact z.elim
   |_=>cases h3
  ·rw[aM hc]at oG;cases oG
end VS
namespace L2
def Has.u(h:Has P w K mg base x i ps sp)(l:i<=j:=by decide):Has P w K mg base x j ps sp:=h.up l
end L2
namespace VS
open PySem.Spec PyProof.Rows L2
structure DP (K:ae) (mg:bA->Option ak) (x:bA) (st:gx):Prop where
 ex:∃f fd,Fun K x x st f fd/\b_ K bp x=cz (cz (.ref f))/\mg x=cz (.ref f)
section
variable {P:bu}{w:bV}{K:ae}{mg:bA->Option ak}{base h:cB}{x:bA}{st:gx}{N ps:List bA}{k n:Nat}{us:List Ty}{u wt:Ty}{g:EvS}{sp:Sp}
def c2j{f:aw}{oc:ak}{od an:Option aw}{pA:Array (Option ak)}{kV doc pm f_ ct:ak}(X:K.In h)(G:h.Ns bp mg)(a:b_ K bp x=cz (cz (.ref f)))(l:K.lookup f=cz ⟨oc,od,.func (fW x x (T6 st) (t9 st) (i5 st) .none kV doc pm an f_ ct),pA⟩)
  (c:mi K f_ x=yn) (k:fA K (.ref f)=yn):DP K mg x st:=⟨_,_,b9l l c k,a,gq X G a⟩
def c3G(X:K.In h)(G:h.Ns bp mg)(a:b_ K bp x=cz (cz (.int i t))):∃t,mg x=cz (.int i t):=⟨t,gq X G a⟩
abbrev BBy(x:bA)(st:gx)(ps:List bA):Prop:=∀(kV doc pm:ak) (an:Option aw) (f_ ct:ak) (us:List ak),us.length=ps.length->qW (fW x x (T6 st) (t9 st) (i5 st) .none kV doc pm an f_ ct) ⟨us,[]⟩=pure (ps.zip us)
def n6(d:DP K mg x st)(h:∀f fd,Fun K x x st f fd->FnOk P w K mg base CX0 k f fd ps sp)(b:BBy x st ps:=by intro _ _ _ _ _ _ us hl;first|(obtain⟨_,rfl⟩:=b7k hl;rfl)|(obtain⟨_,_,rfl⟩:=b7l hl;rfl)|(obtain⟨_,_,_,rfl⟩:=c0m hl;rfl)|(obtain⟨_,_,_,_,rfl⟩:=c2e hl;rfl)|(obtain⟨_,_,_,_,_,rfl⟩:=c3D hl;rfl)|(obtain⟨_,_,_,_,_,_,rfl⟩:=c3E hl;rfl)):Has P w K mg base x k ps sp:=by
 obtain⟨f,fd,F,a,m⟩:=d.ex;exact⟨f,fd,h f fd F,F.binds b,F.kp,m⟩
def b7B(d:DP K mg x st)(h:∀f fd,Fun K x x st f fd->b_ K bp x=cz (cz (.ref f))->FnOk P w K mg base CX0 k f fd ps sp)(b:BBy x st ps:=by intro _ _ _ _ _ _ us hl;first|(obtain⟨_,rfl⟩:=b7k hl;rfl)|(obtain⟨_,_,rfl⟩:=b7l hl;rfl)|(obtain⟨_,_,_,rfl⟩:=c0m hl;rfl)):Has P w K mg base x k ps sp:=by
 obtain⟨f,fd,F,a,m⟩:=d.ex;exact⟨f,fd,h f fd F a,F.binds b,F.kp,m⟩
def fnF(F:Fun K x x st f fd)(N:List bA)(hb:∀(S:FnScope N ps (i5 st)) (f_:ak) (A:bP) (outer:List nQ) (s:au) (H:Hp) (E:XK),Room k (A.deeper (ju x (i5 st) s.heap.objs.size f f_))->PSsX (a0H CX0 P w K mg base N x (i5 st) f f_ A outer s H E).nox u [] (us.map .own++aP n .dead) (t9 st) g [])
  (S:FnScope N ps (i5 st):=by exact⟨rfl,rfl,rfl,by decide +kernel,rfl,by decide +kernel,by decide +kernel⟩) (oF:us.length=ps.length:=by rfl) (hn:N.length=ps.length+n:=by rfl):FnOk P w K mg base CX0 (k+1) f fd ps (spD K ps.length (fnD us n g) u):=b6I F S oF hn (hb S)
def c3H(F:Fun K x x st f fd)(N:List bA)(M':List Md)(hb:∀(S:FnScope N ps (i5 st)) (f_:ak) (A:bP) (outer:List nQ) (s:au) (H:Hp) (E:XK),Room k (A.deeper (ju x (i5 st) s.heap.objs.size f f_))->PSsX (a0H CX0 P w K mg base N x (i5 st) f f_ A outer s H E).nox .i [] (us.map .own++aP n .dead) (t9 st) g M')
  (S:FnScope N ps (i5 st):=by exact⟨rfl,rfl,rfl,by decide +kernel,rfl,by decide +kernel,by decide +kernel⟩) (oF:us.length=ps.length:=by rfl) (hn:N.length=ps.length+n:=by rfl):FnOk P w K mg base CX0 (k+1) f fd ps (spD K ps.length (fnN us n g) .i):=b3M F S oF hn (hb S)
def c3I{Φ:(List D->Option D)->Hp->V->Prop}{g:(List D->Option D)->EvS}(F:Fun K x x st f fd)(N:List bA)(hb:∀(S:FnScope N ps (i5 st)) (gm:List D->Option D) (f_:ak) (A:bP) (outer:List nQ) (s:au) (H:Hp) (E:XK),Room k (A.deeper (ju x (i5 st) s.heap.objs.size f f_))->PSsX (a0H CX0 P w K mg base N x (i5 st) f f_ A outer s H E).nox u [] (us.map .own++(.fn (Φ gm)::aP n .dead)) (t9 st) (g gm) [])
  (S:FnScope N ps (i5 st):=by exact⟨rfl,rfl,rfl,by decide +kernel,rfl,by decide +kernel,by decide +kernel⟩) (oF:us.length+1=ps.length:=by rfl) (hn:N.length=ps.length+n:=by rfl) (hj:j=us.length:=by rfl):FnOk P w K mg base CX0 (k+1) f fd ps (spL K j Φ (fnL us n g) u):=hj▸b4w (M':=λ_=>[]) F S oF hn (hb S)
def c3J(F:Fun K x x st f fd)(N:List bA)(lt:(C4 K x).isSome=yn)(X:K.In base)(G:base.Ns bp mg)(a:b_ K bp x=cz (cz (.ref f)))(hb:∀(S:FnScope N ps (i5 st)) (c:aw) (p:aw) (hc:fd.code=.ref c) (hp:C4 K x=cz p) (hd:gL base c p) (A:bP) (outer:List nQ) (s:au) (H:Hp) (E:XK),Room k (A.deeper (ju x (i5 st) s.heap.objs.size f fd.code))->PSsX (a0H CX0 P w K mg base N x (i5 st) f fd.code A outer s H E).nox u [] (us.map .own++aP n .dead) (t9 st) g [])
  (S:FnScope N ps (i5 st):=by exact⟨rfl,rfl,rfl,by decide +kernel,rfl,by decide +kernel,by decide +kernel⟩) (oF:us.length=ps.length:=by rfl) (hn:N.length=ps.length+n:=by rfl):FnOk P w K mg base CX0 (k+1) f fd ps (spD K ps.length (fnD us n g) u):=by
 obtain⟨oc,od,kV,doc,pm,an,f_,ct,pA,e,lk,kU⟩:=F.ex;obtain⟨c,p,h1,h2,h3⟩:=b4C lt X G a lk;exact b4B F S oF hn (hb S c p h1 h2 h3)
def c0C(zR:mg x=cz (.ref fa))(d:DP K mg x st)(h:∀base:cB,K.In base->base.Ns bp mg->∀fd,Fun K x x st fa fd->FnOk P w K mg base CX0 k fa fd [p] sp)(b:∀(kV doc pm:ak) (an:Option aw) (f_ ct v:ak),qW (fW x x (T6 st) (t9 st) (i5 st) .none kV doc pm an f_ ct) ⟨[v],[]⟩=pure [(p,v)]:=by intros;rfl) :
  ∃fd:dU,(∀(s:au) (v:ak),oK s fd ⟨[v],[]⟩ [(p,v)])/\∀base:cB,K.In base->base.Ns bp mg->FnOk P w K mg base CX0 k fa fd [p] sp:=by
 obtain⟨f,fd,F,a,m⟩:=d.ex;rw[zR]at m;cases m
 refine⟨fd,λs v=>?_,λbase X G=>h base X G fd F⟩;obtain⟨oc,od,kV,doc,pm,an,f_,ct,pA,rfl,lk,kU⟩:=F.ex;exact .of_eq (b kV doc pm an f_ ct v)
end
section
variable {X:Cx}{M:List Md}{e e0:Expr}{es:List Expr}{fe:EvE}{f:EvA}{c:Cat}{u:Ty}{pos p:fS}{x:bA}
abbrev mdF:Md:=.own .f
abbrev mdI:Md:=.own .i
abbrev mdL:Md:=.own (.l .i)
abbrev mdD:Md:=.dead
def e7(i:Nat)(hN:X.N[i]?=cz x:=by rfl)(hv:autoParam (NmV X x) ZY._auto_1)(hm:M[i]?=cz (.own .f):=by rfl):PX X M (.Name x pos) (a6 i) (.bor .f):=w8 i hN hv hm
def f8(i:Nat)(hN:X.N[i]?=cz x:=by rfl)(hv:autoParam (NmV X x) ZY._auto_1)(hm:M[i]?=cz (.own .i):=by rfl):PX X M (.Name x pos) (a6 i) (.bor .i):=w8 i hN hv hm
def a7O(i:Nat)(hN:X.N[i]?=cz x:=by rfl)(hv:autoParam (NmV X x) ZY._auto_1)(hm:M[i]?=cz (.own (.l .i)):=by rfl):PX X M (.Name x pos) (a6 i) (.bor (.l .i)):=w8 i hN hv hm
def A8(i:Nat)(hN:X.N.Nodup)(hi:X.N[i]?=cz x:=by rfl)(hx:autoParam (Loc X.env.scope x) ZX._auto_1)(hf:autoParam (X.fn x=yn\/X.env.scope.names.lookup x=cz .local) ZZ._auto_1):PG X (.Name x pos) (M7 i):=p5 hN hi hx hf
def z9(hm:X.mg "len"=xn)(h:PX X M e fe c)(hg:Gl X "len":=by rfl)(he:aq [e] X.env=(yH,cD e X.env)::aq [] X.env:=by rfl)(gn:(cy pos (aq [] X.env)).any (·.1)=yH:=by rfl):PX X M (.Call (.Name "len" p) [e] [] pos) (eCl J8 (a7 fe b9)) (.new .i):=Q3 b9s hm PySem.boot_len (a8 h f9 he) hg (by decide) (by decide) he gn
def l5(W:Has X.prog X.w X.K X.mg X.base x k ps (spD X.K n m u))(hr:Room k X.A)(h:PAX X M (e0::es) f)(hu:u.shut=yn:=by rfl)(hl:(e0::es).length=n:=by rfl)(hfl:∀Z ds,f Z=cz ds->ds.length=(e0::es).length:=by first|exact l7 E4|exact l7 (l7 E4)|exact l7 (l7 (l7 E4))|exact l7 (l7 (l7 (l7 E4)))|exact l7 (l7 (l7 (l7 (l7 E4)))))
  (hg:Gl X x:=by rfl) (lM:(x==("__debug__":bA))=yH:=by decide) (he:aq (e0::es) X.env=(yH,cD e0 X.env)::aq es X.env:=by rfl) (gn:(cy pos (aq es X.env)).any (·.1)=yH:=by rfl) :
  PX X M (.Call (.Name x p) (e0::es) [] pos) (eCl m f) (.new u):=a6f W hr h hu hl hfl hg lM he gn
def O7(hu:X.A.units+464<dY:=by exact Room.units (by assumption)):OpS X (cH .Eq) dEq:=os_eq hu
end
section
variable {P:bu}{w:bV}{K:ae}{mg:bA->Option ak}{base h:cB}{x:bA}{st:gx}{N ps:List bA}{k n:Nat}{us:List Ty}{sp:Sp}
def HasR.u(h:HasR P w K mg base x i ps sp)(l:i<=j:=by decide):HasR P w K mg base x j ps sp:=h.up l
def c3K(a:b_ K bp x=cz (cz (.ref C)))(b:PySem.W.excIn K C [.type "ValueError",.type "Exception",.type "BaseException",.type "object"] "ValueError.__new__"=yn):∃C,b4E K x C:=⟨C,a,b⟩
def c3L{L:List bA}(a:b_ K bp x=cz (cz (.ref C)))(b:L.all (a3S K C)=yn):∃C,b_ K bp x=cz (cz (.ref C))/\L.all (a3S K C)=yn:=⟨C,a,b⟩
def c3M{L:List bA}(X:K.In h)(G:h.Ns bp mg)(a:b_ K bp x=cz (cz (.ref C)))(b:L.all (λn=>c0z K n&&c0A K (.ref C) f n)=yn)(c:dS K (.type "NoneType") (.ref C)=cz yH):∃C,mg x=cz (.ref C)/\ExcN K (.ref C) L f:=⟨C,gq X G a,b,c⟩
def b0p(d:DP K mg x st)(h:∀f fd,Fun K x x st f fd->FnOk P w K mg base (CXR P w) k f fd ps sp)(b:BBy x st ps:=by intro _ _ _ _ _ _ us hl;first|(obtain⟨_,rfl⟩:=b7k hl;rfl)|(obtain⟨_,_,rfl⟩:=b7l hl;rfl)|(obtain⟨_,_,_,rfl⟩:=c0m hl;rfl)|(obtain⟨_,_,_,_,rfl⟩:=c2e hl;rfl)):HasR P w K mg base x k ps sp:=by
 obtain⟨f,fd,F,a,m⟩:=d.ex;exact⟨f,fd,h f fd F,F.binds b,F.kp,m⟩
end
section
variable {P:bu}{w:bV}{K:ae}{mg:bA->Option ak}{base h:cB}{x:bA}{st:gx}{N ps:List bA}{k n:Nat}{us:List Ty}
def c2k(F:Fun K x x st f fd)(N:List bA)
  (hb:∀(S:FnScope N ps (i5 st)) (E:XK) (f_:ak) (A:bP) (outer:List nQ) (s:au) (H:Hp),let X:=a0H (CXR P w) P w K mg base N x (i5 st) f f_ A outer s H E;XeL X E->Room k X.A->a9f X (wE K E) (us.map .own++aP n .dead) (t9 st) r)
  (S:FnScope N ps (i5 st):=by exact⟨rfl,rfl,rfl,by decide +kernel,rfl,by decide +kernel,by decide +kernel⟩) (oF:us.length=ps.length:=by rfl) (hn:N.length=ps.length+n:=by rfl):FnOk P w K mg base (CXR P w) (k+1) f fd ps (spR K ps.length (fnR us n r)):=by
 obtain⟨oc,od,kV,doc,pm,an,f_,ct,pA,rfl,lk,kU⟩:=F.ex;refine b3d lk kU S (λvs H Q E h=>?_) λA outer s H vs Q E hr pR=>?_
 ·obtain⟨ds,d,hl,_⟩:=h;exact hl
 obtain⟨ds,y,hl,hd,hm,q⟩:=pR;refine⟨_,hb S E f_ A outer s H ⟨rfl,rfl,rfl,rfl,rfl⟩ hr,?_⟩;unfold fnR at hm;by_cases ha:argsOk us ds=yn
 ·rw[aE ha]at hm;have e:L2.start N vs=vs.map cz++aP n xn:=by
   unfold L2.start;rw[show N.length-vs.length=n by lia]
  rw[e];refine⟨ds++aP n h_,H,[],y,⟨⟨[],P4 ha hd n,bH,λa ha=>(nomatch ha)⟩,λa ha=>(nomatch ha),by rw[K3];exact Same.refl H⟩,hm,λM' Z' U' H' F' S' C H2 hC e2=>q C H2 hC ((S'.prot.trans k7).trans e2)⟩
 ·rw[aM ha]at hm;cases hm
end
end VS
namespace VS
open L2
section
variable {a b c:EvE}{Z:List D}{d x y:D}
def chE(g':D->D->Option D):Option D->Option D->EvE->List D->Option D
 |some (.bool yn),cz y,c,Z=>l2 g' (cz y) (c Z)
 |some (.bool yH),cz _,_,_=>cz (.bool yH)
 |_,_,_,_=>xn
def c3N:eCh g g' a b c Z=chE g' (l2 g (a Z) (b Z)) (b Z) c Z:=by
 unfold eCh;cases a Z with
 |none=>rfl
 |some x=>
  cases b Z with
  |none=>rfl
  |some y=>
   show (g x y).bind _=chE g' (g x y) (cz y) c Z;cases g x y with
   |none=>rfl
   |some z=>
    cases z with
    |bool k=>
     cases k with
     |false=>rfl
     |true=>cases h:c Z<;>simp[chE,asB,h,l2]
    |_=>rfl
def c2l:chE g' (cz (.bool yn)) (cz y) c Z=l2 g' (cz y) (c Z):=rfl
def c2m:chE g' (cz (.bool yH)) (cz y) c Z=cz (.bool yH):=rfl
def c3O:(yn==yn)=yn:=rfl
def c3P:(yn==yH)=yH:=rfl
def c3Q:(yH==yn)=yH:=rfl
def c3R:(yH==yH)=yn:=rfl
def c3S:(yn !=yn)=yH:=rfl
def c3T:(yn !=yH)=yn:=rfl
def c3U:(yH !=yn)=yn:=rfl
def c3V:(yH !=yH)=yH:=rfl
def trB:tr (.bool k)=cz k:=rfl
def c2n:asB (.bool k)=cz k:=rfl
def b4I:isN .none=yn:=rfl
def b7C:isN (.int i)=yH:=rfl
def b4J:isN (.bool i)=yH:=rfl
def b4K:isN (.list ds)=yH:=rfl
def b7D:isN (.tuple ds)=yH:=rfl
def c0D:a8x k x .none=cz (.bool (k !=isN x)):=rfl
def b2n:isInt (.int i)=yn:=rfl
def a9g:isInt (.bool i)=yn:=rfl
def a9h:isInt .none=yH:=rfl
def a9i:isInt (.list ds)=yH:=rfl
def b2o:isInt (.tuple ds)=yH:=rfl
def b2p:isInt (.str s)=yH:=rfl
def a9j:isInt (.dict s)=yH:=rfl
def a9k:isBool (.int i)=yH:=rfl
def a7P:isBool (.bool i)=yn:=rfl
def a7Q:isBool .none=yH:=rfl
def a7R:isBool (.list ds)=yH:=rfl
def a9l:isBool (.tuple ds)=yH:=rfl
def a9m:isBool (.str s)=yH:=rfl
def a7S:isBool (.dict s)=yH:=rfl
def isList_list:isList (.list ds)=yn:=rfl
def isList_int:isList (.int i)=yH:=rfl
def a7T:isList .none=yH:=rfl
def isList_bool:isList (.bool i)=yH:=rfl
def a9n:isList (.tuple ds)=yH:=rfl
def isList_str:isList (.str s)=yH:=rfl
def isList_dict:isList (.dict s)=yH:=rfl
def a7U:a6c (.tuple ds)=yn:=rfl
def isTuple_list:a6c (.list ds)=yH:=rfl
def isTuple_int:a6c (.int i)=yH:=rfl
def lIs:Option D->Option D
 |some d=>b3s d
 |none=>xn
def a5w:eI a Z=lIs (a Z):=by unfold eI;cases a Z<;>rfl
def b0q(h:g6 ds=yn):lIs (cz (.list ds))=cz (.list ds):=by
 show (if g6 ds=yn then cz (cF ds) else xn)=_;rw[aE h]
def b4L:Option D->Option D
 |some (.list ds)=>cz (.list ds)
 |some (.tuple ds)=>cz (.list ds)
 |_=>xn
def b0r:V6 a Z=b4L (a Z):=by
 unfold V6;cases a Z with
 |none=>rfl
 |some d=>cases d<;>rfl
def c2o:b4L (cz (.list ds))=cz (.list ds):=rfl
def c2p:b4L (cz (.tuple ds))=cz (.list ds):=rfl
def lL:Option D->Option (List D)
 |some d=>asL d
 |none=>xn
def b2q:iL a Z=lL (a Z):=by unfold iL;cases a Z<;>rfl
def c3W:lL (cz (.list ds))=cz ds:=rfl
def lII:Option (List D)->Option (List D)
 |some ds=>if g6 ds then cz ds else xn
 |none=>xn
def c2q:iI f Z=lII (f Z):=by unfold iI;cases f Z<;>rfl
def a1T(h:f Z=cz ds)(hi:g6 ds=yn):iI f Z=cz ds:=by rw[c2q,h];show (if g6 ds=yn then cz ds else xn)=_;rw[aE hi]
def c0E{ds:List D}(h:ds.length<1000000):b9W i (.list ds) (cz d) Z=cz (.nx (Z.set i (.list (ds++[d])))):=a0L h
def c0F:r0 i Z d=cz (Z.set i d):=rfl
def c0G:a3r i j Z (.tuple [x,y])=cz ((Z.set i x).set j y):=rfl
def c2r:pt1 d=cz [d]:=rfl
def c2s:pt2 (.tuple [x,y])=cz [x,y]:=rfl
def c3X:tT Z=cz yn:=rfl
end
def N2(P:List D->Prop)(h1:∃Z,o=cz (.nx Z)/\P Z)(h2:∀Z,P Z->a3w (s Z)=R):a3w (thn o s)=R:=by
 obtain⟨Z,rfl,h⟩:=h1;exact h2 Z h
def b4M(P:List D->Prop)(h1:∃Z,o=cz (.nx Z)/\P Z)(h2:∀Z,P Z->s Z=R):thn o s=R:=by
 obtain⟨Z,rfl,h⟩:=h1;exact h2 Z h
def G0{R:Option D->Prop}(P:List D->Prop)(h1:∃Z,o=cz (.nx Z)/\P Z)(h2:∀Z,P Z->R (a3w (s Z))):R (a3w (thn o s)):=by
 obtain⟨Z,rfl,h⟩:=h1;exact h2 Z h
theorem a7V(f:D->D):∀{ds:List D},(∀d∈ds,∃bs,pt d=cz bs/\g (bs++cs)=cz (f d))->V7 pt tT g cs ds=cz (ds.map f)
 |[],_=>rfl
 |d::ds,h=>by
  obtain⟨bs,h1,h2⟩:=h d aN;have ih:=a7V f (ds:=ds) λe he=>h e (ax _ he)
  show (pt d).bind _=_;rw[h1];show (g (bs++cs)).bind _=_;rw[h2];show (V7 pt tT g cs ds).bind _=_;rw[ih];rfl
def a3W{js:List Nat}{Z ds:List D}(f:D->D)(hf:fi Z=cz ds)(hl:ds.length<=1000000)(h:∀d∈ds,∃bs,pt d=cz bs/\g (bs++js.map λj=>Z.getD j .none)=cz (f d)) :
  o8 fi js pt tT g Z=cz (.list (ds.map f)):=by
 unfold o8;rw[hf];show (if ds.length<=1000000 then _ else xn)=_;rw[aE hl,a7V f h];rfl
def a2S{js:List Nat}{Z:List D}(f:Nat->D)(ha:a Z=cz (.int n))(h0:0<=n)(h1:n<=1000000)(h:∀k:Nat,(k:Int)<n->g (.int k::js.map λj=>Z.getD j .none)=cz (f k)) :
  o8 (iR a) js pt1 tT g Z=cz (.list ((aB n.toNat).map f)):=by
 rw[a3W (ds:=l8 0 n.toNat) (λd=>match d with|.int i=>f i.toNat|_=>.none) (a6j ha h0 (by lia)) (by rw[a8J];lia)]
 ·unfold l8;rw[bD]
  congr 2;refine bK λk _=>?_
  show f (0+(k:Int)).toNat=f k
  congr 1;lia
 ·intro d hd;unfold l8 at hd;obtain⟨k,hk,rfl⟩:=aJ.mp hd;have:=bO.mp hk;refine⟨_,rfl,?_⟩;have e:(0:Int)+(k:Int)=k:=by lia
  rw[e];exact h k (by lia)
theorem m7(f:α->D)(h:∀x,imm (f x)=yn):∀xs:List α,g6 (xs.map f)=yn
 |[]=>by simp only[cW,g6]
 |x::xs=>by simp only[ay,g6,h x,m7 f h xs,eN]
end VS
namespace Prog
open L2 VS
abbrev iD(ns:List Int):D:=.list (ns.map .int)
end Prog
namespace VS
open L2
mutual
theorem eqv_refl:∀d:D,d.canLay0=yn->aI d d=yn
 |.none,_=>by simp[aI]
 |.bool b,_=>by simp[aI]
 |.int i,_=>by simp[aI]
 |.str x,_=>by simp[aI]
 |.list xs,h=>by
  simp only[dm]at h;simp only[aI];exact eqvAll_refl xs h
 |.tuple xs,h=>by
  simp only[dm]at h;simp only[aI];exact eqvAll_refl xs h
 |.dict _,h=>by simp[dm]at h
theorem eqvAll_refl:∀xs:List D,bh xs=yn->bT xs xs=yn
 |[],_=>by simp only[bT]
 |x::xs,h=>by
  simp only[bh,aD]at h;simp only[bT,aD];exact⟨eqv_refl x h.1,eqvAll_refl xs h.2⟩
end
def b4N{a b:D}(ha:a.canLay0=yn)(hb:b.canLay0=yn)(hd:a.depth<=450):dEq a b=cz (.bool (aI a b)):=by
 unfold dEq b3k;rw[ha,hb,aL hd];simp
def c2t{a:D}(ha:a.canLay0=yn)(hd:a.depth<=450):dEq a a=cz (.bool yn):=by rw[b4N ha ha hd,eqv_refl a ha]
theorem a1n(f:α->D)(h:∀x,(f x).canLay0=yn):∀xs:List α,bh (xs.map f)=yn
 |[]=>by simp only[cW,bh]
 |x::xs=>by simp only[ay,bh,h x,a1n f h xs,eN]
theorem N9(f:α->D)(n:Nat)(h:∀x,(f x).depth<=n):∀xs:List α,cX (xs.map f)<=n
 |[]=>by simp only[cW,cX];exact cG _
 |x::xs=>by
  simp only[ay,cX];exact Nat.max_le.mpr ⟨h x,N9 f n h xs⟩
def b7E:(aR i).canLay0=yn:=by simp only[dm]
def a1U:(aR i).depth=0:=by simp only[eL]
def lay_ints(ns:List Int):(cF (ns.map .int)).canLay0=yn:=by
 simp only[dm];exact a1n _ (λ_=>b7E) ns
def a9o(ns:List Int):(cF (ns.map .int)).depth<=1:=by
 simp only[eL];have:=N9 aR 0 (λx=>by rw[a1U];exact aA _) ns;lia
theorem a3X:∀(xs ys:List Int),bT (xs.map aR) (ys.map aR)=decide (xs=ys)
 |[],[]=>by simp[bT]
 |[],_::_=>by simp[bT]
 |_::_,[]=>by simp[bT]
 |x::xs,y::ys=>by
  have:aI (.int x) (.int y)=decide (x=y):=by
   show (x==y)=decide (x=y);exact gz x y
  simp only[ay,bT,this,a3X xs ys,gk];by_cases h1:x=y<;>by_cases h2:xs=ys<;>simp[h1,h2]
def c2u{xs ys:List Int}:dEq (.list (xs.map .int)) (.list (ys.map .int))=cz (.bool (decide (xs=ys))):=by
 rw[b4N (lay_ints _) (lay_ints _) (cR (a9o _) (by decide))];simp only[aI,a3X]
def b2r:Option D->Option D->Option D
 |some (.list ds),cz (.list es)=>if ds.length+es.length<=bg then cz (.list (ds++es)) else xn
 |_,_=>xn
def b0s{Z:List D}:U0 a b Z=b2r (a Z) (b Z):=by
 unfold U0;cases a Z with
 |none=>rfl
 |some x=>
  cases x with
  |list ds=>
   cases b Z with
   |none=>rfl
   |some y=>cases y<;>rfl
  |_=>cases b Z<;>rfl
def b4O{ds es:List D}(h:ds.length+es.length<=16777216):b2r (cz (.list ds)) (cz (.list es))=cz (.list (ds++es)):=by
 show (if ds.length+es.length<=bg then _ else _)=_;rw[aE (show ds.length+es.length<=bg from h)]
def lSl:Option D->Option (Option Int)->Option (Option Int)->Option D
 |some (.list ds),cz l,cz h=>cz (.list (cutD ds l h))
 |_,_,_=>xn
def c3Y{Z:List D}:eSl a lo hi Z=lSl (a Z) (lo Z) (hi Z):=by
 unfold eSl;cases a Z with
 |none=>rfl
 |some x=>
  cases x with
  |list ds=>
   cases lo Z with
   |none=>rfl
   |some y=>cases hi Z<;>rfl
  |_=>cases lo Z<;>cases hi Z<;>rfl
def c2v:lSl (cz (.list ds)) (cz l) (cz h)=cz (.list (cutD ds l h)):=rfl
def c2w{Z:List D}:oNo Z=cz xn:=rfl
def lO:Option D->Option (Option Int)
 |some (.int i)=>cz (cz i)
 |_=>xn
def c2x{Z:List D}:oSo a Z=lO (a Z):=by
 unfold oSo;cases a Z with
 |none=>rfl
 |some x=>cases x<;>rfl
def c3Z:lO (cz (.int i))=cz (cz i):=rfl
def c0H{ds:List D}{k:Int}(h0:0<=k)(h1:k<=ds.length):cutD ds xn (cz k)=ds.take k.toNat:=by
 unfold cutD HT.sIx
 dsimp only
 rw[aM (by lia),List.drop_zero,Nat.sub_zero,lC (by lia)]
def a3Y{xs ys:List Int}(h:xs.length+ys.length<=16777216):b2r (cz (.list (xs.map .int))) (cz (.list (ys.map .int)))=cz (.list ((xs++ys).map .int)):=by
 rw[b4O (by simpa using h),aQ]
def a6x{xs:List Int}:lIs (cz (.list (xs.map .int)))=cz (.list (xs.map .int)):=b0q (v7 _)
def a2T:aI (.int x) (.int y)=decide (x=y):=by
 show (x==y)=decide (x=y);exact gz x y
def at0{α:Type}{x:α}{xs:List α}:L2.atI (x::xs) 0=cz x:=by
 unfold L2.atI ixN;rw[aE (by decide),aE (by simp only[aY];lia)];rfl
def at1{α:Type}{x y:α}{xs:List α}:L2.atI (x::y::xs) 1=cz y:=by
 unfold L2.atI ixN;rw[aE (by decide),aE (by simp only[aY];lia)];rfl
def z7{enc:α->D}{set:List D->D->Option (List D)}{xs:List α}{Z:List D}(I:List α->List D->Prop)(h0:I [] Z)
  (step:∀pre x post,xs=pre++x::post->∀Z,I pre Z->∃Z1 Z2,set Z (enc x)=cz Z1/\g Z1=cz (.nx Z2)/\I (pre++[x]) Z2) :
  ∃Z',W4 set g (xs.map enc) Z=cz (.nx Z')/\I xs Z':=by
 have key:∀(post pre:List α) (Z:List D),xs=pre++post->I pre Z->∃Z',W4 set g (post.map enc) Z=cz (.nx Z')/\I xs Z':=by
  intro post
  induction post with
  |nil=>
   intro pre Z e h;rw[bj]at e;subst e;exact⟨Z,rfl,h⟩
  |cons x post ih=>
   intro pre Z e h;obtain⟨Z1,Z2,h1,h2,h3⟩:=step pre x post e Z h;obtain⟨Z',h4,h5⟩:=ih (pre++[x]) Z2 (by rw[e,aV];rfl) h3;refine⟨Z',?_,h5⟩;show (set Z (enc x)).bind _=_;rw[h1];show (g Z1).bind _=_;rw[h2];exact h4
 exact key xs [] Z rfl h0
def a5x:l8 0 n=(aB n).map λ(k:Nat)=>aR k:=by
 unfold l8;refine bK λk _=>?_
 show aR (0+(k:Int))=.int k;rw[Int.zero_add]
def Y7(h:aB n=pre++x::post):x=pre.length/\x<n/\pre=aB x:=by
 have hx:(aB n)[pre.length]?=cz x:=by rw[h];simp
 have jz:pre.length<n:=by have:=dH eh h;simp at this;lia
 rw[fP jz]at hx;have e:x=pre.length:=(aK hx).symm;refine⟨e,by lia,?_⟩;have:=dH (List.take pre.length) h;rw[List.take_append_of_le_length (aA _),oY,qf,lC (by lia)]at this;rw[e,this]
def E6{set:List D->D->Option (List D)}{Z:List D}(I:Nat->List D->Prop)(h0:I 0 Z)
  (step:∀k,k<n->∀Z,I k Z->∃Z1 Z2,set Z (.int k)=cz Z1/\g Z1=cz (.nx Z2)/\I (k+1) Z2) :
  ∃Z',W4 set g (l8 0 n) Z=cz (.nx Z')/\I n Z':=by
 rw[a5x];obtain⟨Z',h1,h2⟩:=z7 (enc:=λ(k:Nat)=>aR k) (set:=set) (g:=g) (xs:=aB n) (Z:=Z) (λpre Z=>I pre.length Z) h0 λpre x post e Z h=>by
  obtain⟨e1,e2,_⟩:=Y7 e;subst e1;obtain⟨Z1,Z2,a,b,c⟩:=step pre.length e2 Z h;exact⟨Z1,Z2,a,b,by rw[az];exact c⟩
 rw[bE]at h2;exact⟨Z',h1,h2⟩
def big:Int:=10^60
def b4P:1000<big:=by decide
abbrev j5:=List (List (Int×Int))
def stD(p:Int×Int):D:=.tuple [.int p.1,.int p.2]
def rwD(r:List (Int×Int)):D:=.list (r.map stD)
def rowAt(m:j5)(s:Int):List (Int×Int):=m.getD s.toNat []
def stp(m:j5)(s a:Int):Int×Int:=(rowAt m s).getD a.toNat (0,0)
structure WF (m:j5) (k:Nat):Prop where
 pos:0<m.length
 le:m.length<=30
 k1:1<=k
 k5:k<=5
 rows:∀r∈m,r.length=k
 next:∀r∈m,∀p∈r,0<=p.2/\p.2<(m.length:Int)
def K1{m:j5}{s:Int}(h0:0<=s)(h1:s<m.length):rowAt m s∈m:=by
 unfold rowAt;rw[ah,ag (by lia)];exact dB _
def WF.row{m:j5}{k:Nat}(w:WF m k){s:Int}(h0:0<=s)(h1:s<m.length):(rowAt m s).length=k:=w.rows _ (K1 h0 h1)
def b7F{m:j5}{k:Nat}(w:WF m k){s a:Int}(h0:0<=s)(h1:s<m.length)(h2:0<=a)(h3:a<k):stp m s a∈rowAt m s:=by
 have:=w.row h0 h1;unfold stp;rw[ah,ag (by lia)];exact dB _
def WF.nx{m:j5}{k:Nat}(w:WF m k){s a:Int}(h0:0<=s)(h1:s<m.length)(h2:0<=a)(h3:a<k):0<=(stp m s a).2/\(stp m s a).2<(m.length:Int):=w.next _ (K1 h0 h1) _ (b7F w h0 h1 h2 h3)
def a2L{m:j5}{s:Int}(h0:0<=s)(h1:s<m.length):L2.atI (m.map rwD) s=cz (rwD (rowAt m s)):=by
 rw[a1I h0 (by rw[aj];exact h1),dC];unfold rowAt;rw[ah,ag (by lia)];rfl
def b2s{r:List (Int×Int)}{a:Int}(h0:0<=a)(h1:a<r.length):dIx (rwD r) (.int a)=cz (stD (r.getD a.toNat (0,0))):=by
 show L2.atI (r.map stD) a=_;rw[a1I h0 (by rw[aj];exact h1),dC,ah,ag (by lia)];rfl
def c2y:dIx (stD p) (.int 0)=cz (.int p.1):=rfl
def c2z:dIx (stD p) (.int 1)=cz (.int p.2):=rfl
def a1V:imm (stD p)=yn:=by unfold stD;simp only[imm,g6,eN]
def c0I:a5Y (stD p)=cz (stD p):=b3K a1V
def b7G:a5Y (.int i)=cz (.int i):=b3K U3
def c2A:J8 [rwD r]=cz (.int r.length):=by
 show cz (aR ((r.map stD).length:Nat))=_;rw[aj]
def b7H{Z:List D}:b3F i j (cz (stD p)) Z=cz (.nx ((Z.set i (.int p.1)).set j (.int p.2))):=rfl
def a9p(p:Int×Int):(stD p).canLay0=yn:=by unfold stD;simp[dm,bh]
def c0J(r:List (Int×Int)):(rwD r).canLay0=yn:=by unfold rwD;simp only[dm];exact a1n _ a9p r
def b4Q(m:j5):(cF (m.map rwD)).canLay0=yn:=by simp only[dm];exact a1n _ c0J m
def a3Z(p:Int×Int):(stD p).depth<=1:=by unfold stD;simp[eL,cX]
def b4R(r:List (Int×Int)):(rwD r).depth<=2:=by
 unfold rwD;simp only[eL];have:=N9 stD 1 a3Z r;lia
def a9q(m:j5):(cF (m.map rwD)).depth<=450:=by
 simp only[eL];have:=N9 rwD 2 b4R m;lia
def m5(m:j5):Int->List Int->List Int×Int
 |s,[]=>([],s)
 |s,a::p=>((stp m s a).1::(m5 m (stp m s a).2 p).1,(m5 m (stp m s a).2 p).2)
theorem a5y(m:j5):∀(p q:List Int) (s:Int),m5 m s (p++q)=((m5 m s p).1++(m5 m (m5 m s p).2 q).1,(m5 m (m5 m s p).2 q).2)
 |[],q,s=>rfl
 |a::p,q,s=>by
  show ((stp m s a).1::(m5 m (stp m s a).2 (p++q)).1,(m5 m (stp m s a).2 (p++q)).2)=_;rw[a5y m p q];rfl
theorem a5z(m:j5):∀(p:List Int) (s:Int),(m5 m s p).1.length=p.length
 |[],s=>rfl
 |a::p,s=>by
  show (m5 m (stp m s a).2 p).1.length+1=_;rw[a5z m p];rfl
theorem a1W{m:j5}{k:Nat}(w:WF m k):∀(p:List Int) (s:Int),0<=s->s<m.length->(∀a∈p,0<=a/\a<(k:Int))->0<=(m5 m s p).2/\(m5 m s p).2<(m.length:Int)
 |[],s,h0,h1,_=>⟨h0,h1⟩
 |a::p,s,h0,h1,h=>by
  have ha:=h a aN;have hn:=w.nx h0 h1 ha.1 ha.2;exact a1W w p _ hn.1 hn.2 λb hb=>h b (ax _ hb)
def a0R(m:j5)(p:List Int)(a s:Int):m5 m s (p++[a])=((m5 m s p).1++[(stp m (m5 m s p).2 a).1],(stp m (m5 m s p).2 a).2):=by
 rw[a5y];rfl
def c4a:Option Out->Option D
 |some (.rt d)=>cz d
 |some (.nx _)=>cz .none
 |_=>xn
def c2B(h:argsOk us ds=yn):fnN us n g ds=c4a (g (ds++aP n .none)):=by
 unfold fnN;rw[aE h];cases g (ds++aP n .none) with
 |none=>rfl
 |some o=>cases o<;>rfl
section
variable {i:Nat}{t u2:Ty}{Z ds es:List D}{e d:D}{fe fj fa:EvE}{j a:Int}
def c0K{n:Nat}(h0:0<=j)(h1:j<n):ixN n j=cz j.toNat:=by
 unfold ixN;rw[aE h0,aE h1]
end
def eq_nil{p:List Int}:dEq (.list (p.map .int)) (.list [])=cz (.bool (decide (p=[]))):=c2u (ys:=[])
def c0L:b4L (cz (rwD r))=cz (rwD r):=rfl
def c2C:lIs (cz (rwD r))=cz (rwD r):=b0q (m7 _ (λ_=>a1V) r)
def c0M{m:j5}{Z:List D}(h:a Z=cz (.list (m.map rwD)))(hl:m.length<=1000):o8 (iL a) [] pt1 tT (eI (V6 (a6 0))) Z=cz (.list (m.map rwD)):=by
 rw[a3W (ds:=m.map rwD) id]
 ·rw[List.map_id]
 ·rw[b2q,h];rfl
 ·rw[aj];lia
 ·intro d hd;obtain⟨r,_,rfl⟩:=aJ.mp hd;refine⟨_,rfl,?_⟩;show eI (V6 (a6 0)) [rwD r]=cz (rwD r);rw[a5w,b0r];show lIs (b4L (cz (rwD r)))=_;rw[c0L,c2C]
end VS
namespace Prog
open L2 VS
def top(i:Nat):gx:=PySem.Challenge.pw_probewell_k56_books_refused.main.body.getD i (.Pass ⟨0,0,0,0⟩)
def Lx:List bA:=["NoSize","TooMuch"]
structure Bn (K:ae) (mg:bA->Option ak):Prop where
 d0:DP K mg "_law_mixed" (top 51)
 d1:DP K mg "_law_twice" (top 53)
 d2:DP K mg "_law_machine" (top 52)
 d3:DP K mg "_law_size" (top 54)
 d4:DP K mg "_law_most" (top 55)
 d5:DP K mg "is_whole" (top 15)
 d6:DP K mg "need_size" (top 44)
 d7:DP K mg "first_of_classes" (top 40)
 d8:DP K mg "renumbered" (top 27)
 d9:DP K mg "finer_level" (top 26)
 d10:DP K mg "levels_of" (top 25)
 d11:DP K mg "ways_from" (top 37)
 d12:DP K mg "ways_by_state" (top 36)
 d13:DP K mg "reached" (top 35)
 d14:DP K mg "least" (top 39)
 d15:DP K mg "rank" (top 20)
 d16:DP K mg "marks_among" (top 32)
 d17:DP K mg "first_parting" (top 29)
 d18:DP K mg "first_unlike" (top 28)
 d19:DP K mg "apart_from" (top 24)
 d20:DP K mg "apart" (top 23)
 d21:DP K mg "marks" (top 31)
 d22:DP K mg "one_ask_longer" (top 45)
 d23:DP K mg "rows_of" (top 42)
 d24:DP K mg "asks_of" (top 18)
 d25:DP K mg "ways" (top 34)
 d26:DP K mg "walked" (top 21)
 d27:DP K mg "book_probes" (top 49)
 d28:DP K mg "book_size" (top 43)
 d29:DP K mg "book" (top 48)
 d30:DP K mg "_law_refused" (top 57)
 d31:DP K mg "_law_else" (top 56)
 d32:DP K mg "law" (top 58)
 ValueError_:mg "ValueError"=xn
 bool_:mg "bool"=xn
 enumerate_:mg "enumerate"=xn
 int_:mg "int"=xn
 isinstance_:mg "isinstance"=xn
 len_:mg "len"=xn
 list_:mg "list"=xn
 max_:mg "max"=xn
 min_:mg "min"=xn
 range_:mg "range"=xn
 reversed_:mg "reversed"=xn
 sorted_:mg "sorted"=xn
 tuple_:mg "tuple"=xn
 MOST_IN_BOOK_:∃t,mg "MOST_IN_BOOK"=cz (.int 3000 t)
 MOST_STATES_:∃t,mg "MOST_STATES"=cz (.int 30 t)
 r_NoSize:∃C,b4E K "NoSize" C
 r_TooMuch:∃C,b4E K "TooMuch" C
 pe:∃C,b_ K bp "ProbeError"=cz (cz (.ref C))/\Lx.all (a3S K C)=yn
 i_Ended:∃C,mg "Ended"=cz (.ref C)/\ExcN K (.ref C) Lx (λn=>n=="Ended")
 i_NoAnswers:∃C,mg "NoAnswers"=cz (.ref C)/\ExcN K (.ref C) Lx (λn=>n=="NoAnswers")
 i_NoMachine:∃C,mg "NoMachine"=cz (.ref C)/\ExcN K (.ref C) Lx (λn=>n=="NoMachine")
 i_NoName:∃C,mg "NoName"=cz (.ref C)/\ExcN K (.ref C) Lx (λn=>n=="NoName")
 i_NoProbe:∃C,mg "NoProbe"=cz (.ref C)/\ExcN K (.ref C) Lx (λn=>n=="NoProbe")
 i_NoRow:∃C,mg "NoRow"=cz (.ref C)/\ExcN K (.ref C) Lx (λn=>n=="NoRow")
 i_NoSize:∃C,mg "NoSize"=cz (.ref C)/\ExcN K (.ref C) Lx (λn=>n=="NoSize")
 i_NoState:∃C,mg "NoState"=cz (.ref C)/\ExcN K (.ref C) Lx (λn=>n=="NoState")
 i_NoText:∃C,mg "NoText"=cz (.ref C)/\ExcN K (.ref C) Lx (λn=>n=="NoText")
 i_TooMuch:∃C,mg "TooMuch"=cz (.ref C)/\ExcN K (.ref C) Lx (λn=>n=="TooMuch")
 i_Unfit:∃C,mg "Unfit"=cz (.ref C)/\ExcN K (.ref C) Lx (λn=>n=="Unfit")
 i_Unsteady:∃C,mg "Unsteady"=cz (.ref C)/\ExcN K (.ref C) Lx (λn=>n=="Unsteady")
 i_ValueError:ExcN K (.type "ValueError") Lx (λ_=>yn)
structure Bk (P:bu) (w:bV) (K:ae) (mg:bA->Option ak) (base:cB):Prop extends Bn K mg
variable {P:bu}{w:bV}{K:ae}{mg:bA->Option ak}{base:cB}
abbrev HB(_:Bk P w K mg base):=Has P w K mg base
abbrev HR(_:Bk P w K mg base):=HasR P w K mg base
def c4b:(["_law_s","_law_script","_law_pool"]:List bA).Nodup:=by decide +kernel
def c2D:(["answer","after","numbers"]:List bA).Nodup:=by decide +kernel
def c4c:(["row"]:List bA).Nodup:=by decide +kernel
def c4d:(["step"]:List bA).Nodup:=by decide +kernel
def c4e:(["number","places"]:List bA).Nodup:=by decide +kernel
def c4f:(["state","machine","numbers"]:List bA).Nodup:=by decide +kernel
def c2E:(["probe"]:List bA).Nodup:=by decide +kernel
def c4g:(["level","one","other"]:List bA).Nodup:=by decide +kernel
def c4h:(["other","machine","levels","state"]:List bA).Nodup:=by decide +kernel
def c2F:(["state","machine","levels"]:List bA).Nodup:=by decide +kernel
def c2G:(["probes"]:List bA).Nodup:=by decide +kernel
def c2H:(["ask","row"]:List bA).Nodup:=by decide +kernel
def c2I:(["state","found"]:List bA).Nodup:=by decide +kernel
def c2J:(["probe","machine"]:List bA).Nodup:=by decide +kernel
def c2K:(["_law_row"]:List bA).Nodup:=by decide +kernel
def b_law_mixed:EvS:=(g9 (j8 2 (eC (.int 3))) (g9 (sIf (tB (e2 dGt (eCl J8 (a7 (a6 0) b9)) (eC (.int 0)))) (j8 2 (e2 u6 (a6 0) (e2 G8 (a6 1) (eCl J8 (a7 (a6 0) b9))))) G9) (g9 (j8 2 (e2 G8 (e2 Q0 (e2 D7 (e2 D7 (e2 G8 (a6 2) (eC (.int 2147483629))) (e2 Q0 (eC (.int 7919)) (a6 1))) (eC (.int 1))) (eC (.int 48271))) (eC (.int 2147483647)))) (u7 (e2 G8 (e2 Q0 (a6 2) (e2 D7 (e2 D7 (e2 G8 (a6 2) (eC (.int 65521))) (a6 1)) (eC (.int 2)))) (eC (.int 2147483629)))))))
def m_law_mixed:=fnD [.f,.i] 1 b_law_mixed
abbrev L3(B:Bk P w K mg base)(k:Nat):=HB B "_law_mixed" k ["_law_script","_law_k"] (spD K 2 m_law_mixed .i)
def ok_law_mixed(B:Bk P w K mg base):L3 B 1:=
 n6 B.d0 λ_ _ F=>fnF F ["_law_script","_law_k","_law_cell"] λsc _ _ _ _ _ _ _=>by exact b7 (g8 2 sc.nd (a9 b8)) (b7 (K7 (u5 a5i (z9 B.len_ (e7 0)) b8) (g7 (g8 2 sc.nd (a9 (A7 (e7 0) (i8 u8 (f8 1) (z9 B.len_ (e7 0))))))) z8) (b7 (g8 2 sc.nd (a9 (i8 u8 (i8 F7 (i8 s9 (i8 s9 (i8 u8 (f8 2) b8) (i8 F7 b8 (f8 1))) b8) b8) b8))) (g7 (k8 (a9 (i8 u8 (i8 F7 (f8 2) (i8 s9 (i8 s9 (i8 u8 (f8 2) b8) (f8 1)) b8)) b8))))))
def b_law_twice:EvS:=(g9 (j8 2 (v6 b9)) (g9 (C6 (iR (e2 Q0 (eC (.int 2)) (eCl J8 (a7 (a6 1) b9)))) (r0 3) (g9 (j8 4 (v6 b9)) (g9 (C6 (iR (eCl J8 (a7 (e2 dIx (a6 1) (eC (.int 0))) b9))) (r0 5) (g9 (a7i 6 7 (e2 u6 (e2 dIx (a6 1) (e2 a8w (a6 3) (eC (.int 2)))) (a6 5))) (Q4 4 (.l .i) C3 (T8 (a7 (a6 6) (a7 (e2 D7 (e2 Q0 (eC (.int 2)) (a6 7)) (e2 G8 (eCl m_law_mixed (a7 (a6 0) (a7 (e2 D7 (e2 D7 (eC (.int 60)) (e2 Q0 (eC (.int 5)) (a6 3))) (a6 5)) b9))) (eC (.int 2)))) b9)))))) (Q4 2 (.l (.l .i)) C3 (a6 4))))) (u7 (a6 2))))
def m_law_twice:=fnD [.f,.f] 6 b_law_twice
abbrev a2y(B:Bk P w K mg base)(k:Nat):=HB B "_law_twice" k ["_law_script","_law_rows"] (spD K 2 m_law_twice (.l (.l .i)))
def ok_law_twice(B:Bk P w K mg base)(cE:L3 B 1):a2y B 2:=
 n6 B.d1 λ_ _ F=>fnF F ["_law_script","_law_rows","_law_found","_law_k","_law_row","_law_a","_law_answer","_law_goal"] λsc _ _ _ _ _ _ hr=>by exact b7 (g8 2 sc.nd (a9 (p9 (n:=0) l0))) (b7 (D9 rfl bJ (t5 B.range_ (i8 F7 b8 (z9 B.len_ (e7 1)))) (A8 3 sc.nd) U1 b1w (PSsX.weak (b7 (g8 4 sc.nd (a9 (p9 (n:=0) l0))) (b7 (D9 rfl bJ (t5 B.range_ (z9 B.len_ (D8 (PX.newf (e7 1)) b8))) (A8 5 sc.nd) U1 b1w (PSsX.weak (b7 (b6H 6 7 (u1:=.i) (u2:=.i) sc.nd rfl (a9 (A7 (D8 (PX.newf (e7 1)) (i8 a8y (f8 3) b8)) (f8 5))) (.inr (.inl ⟨rfl,rfl,rfl⟩)) (hg1:=y7 (A8 6 sc.nd) (y7 (A8 7 sc.nd) a0a))) (g7 (a0K 4 (U2 4) (a9 (a0g (n:=2) (i7 (PX.newi (f8 6)) (i7 (i8 s9 (i8 F7 b8 (f8 7)) (i8 u8 (l5 cE hr (a8 (e7 0) (a8 (i8 s9 (i8 s9 b8 (i8 F7 b8 (f8 3))) (f8 5)) f9))) b8)) l0)))) a3s))) n5 (((m6 5).trans (m6 6)).trans (m6 7)))) (g7 (a0K 2 (U2 2) (D5 4) a3s)))) n5 (m6 3))) (g7 (k8 (D5 2))))
def b_law_machine:EvS:=(g9 (j8 1 (e2 D7 (eC (.int 1)) (e2 G8 (eCl m_law_mixed (a7 (a6 0) (a7 (eC (.int 0)) b9))) (eC (.int 4))))) (g9 (j8 2 (e2 D7 (eC (.int 1)) (e2 G8 (eCl m_law_mixed (a7 (a6 0) (a7 (eC (.int 1)) b9))) (eC (.int 5))))) (g9 (j8 3 (v6 (a7 (eC (.int 0)) (a7 (eC (.int 1)) b9)))) (g9 (sIf (tB (e2 dEq (e2 G8 (eCl m_law_mixed (a7 (a6 0) (a7 (eC (.int 2)) b9))) (eC (.int 3))) (eC (.int 0)))) (j8 3 (v6 (a7 (e2 a1y (e2 a6Y (eC (.int 10)) (eC (.int 60))) (eC (.int 1))) (a7 (e2 a1y (e2 D7 (e2 G8 (e2 a6Y (eCl m_law_mixed (a7 (a6 0) (a7 (eC (.int 3)) b9))) (eC (.int 7))) (e2 a1y (e2 Q0 (eC (.int 2)) (e2 a6Y (eC (.int 10)) (eC (.int 60)))) (eC (.int 1)))) (eC (.int 1))) (e2 a6Y (eC (.int 10)) (eC (.int 60)))) b9)))) G9) (g9 (j8 4 (v6 b9)) (g9 (C6 (iR (a6 1)) (r0 5) (g9 (j8 6 (v6 b9)) (g9 (C6 (iR (a6 2)) (r0 7) (g9 (j8 8 (eCl m_law_mixed (a7 (a6 0) (a7 (e2 D7 (e2 D7 (eC (.int 10)) (e2 Q0 (a6 5) (a6 2))) (a6 7)) b9)))) (Q4 6 (.l .i) C3 (T8 (a7 (e2 a4G (a6 3) (e2 G8 (a6 8) (eC (.int 2)))) (a7 (e2 G8 (e2 a8w (a6 8) (eC (.int 6))) (a6 1)) b9)))))) (Q4 4 (.l (.l .i)) C3 (a6 6))))) (g9 (sIf (tB (e2 dEq (e2 G8 (eCl m_law_mixed (a7 (a6 0) (a7 (eC (.int 7)) b9))) (eC (.int 2))) (eC (.int 0)))) (j8 4 (eCl m_law_twice (a7 (a6 0) (a7 (a6 4) b9)))) G9) (g9 (sIf (tB (e2 dEq (e2 G8 (eCl m_law_mixed (a7 (a6 0) (a7 (eC (.int 8)) b9))) (eC (.int 16))) (eC (.int 5)))) (j8 4 (o8 (iR (eC (.int 25))) [0,3] pt1 tT (v6 (a7 (T8 (a7 (e2 a4G (a6 2) (eCl a6b (a7 (e2 dEq (a6 0) (e2 G8 (eCl m_law_mixed (a7 (a6 1) (a7 (eC (.int 9)) b9))) (eC (.int 25)))) b9))) (a7 (e2 G8 (e2 D7 (a6 0) (eC (.int 1))) (eC (.int 25))) b9))) b9)))) G9) (u7 (a6 4))))))))))
def m_law_machine:=fnD [.f] 8 b_law_machine
abbrev a0y(B:Bk P w K mg base)(k:Nat):=HB B "_law_machine" k ["_law_script"] (spD K 1 m_law_machine (.l (.l .i)))
def ok_law_machine(B:Bk P w K mg base)(cE:L3 B 2)(jN:a2y B 2):a0y B 3:=
 n6 B.d2 λ_ _ F=>fnF F ["_law_script","_law_states","_law_asks","_law_pool","_law_rows","_law_s","_law_row","_law_a","_law_cell"] λsc _ _ _ _ _ _ hr=>by exact b7 (g8 1 sc.nd (a9 (i8 s9 b8 (i8 u8 (l5 cE hr (a8 (e7 0) (a8 b8 f9))) b8)))) (b7 (g8 2 sc.nd (a9 (i8 s9 b8 (i8 u8 (l5 cE hr (a8 (e7 0) (a8 b8 f9))) b8)))) (b7 (g8 3 sc.nd (a9 (p9 (n:=2) (i7 b8 (i7 b8 l0))))) (b7 (K7 (u5 O7 (i8 u8 (l5 cE hr (a8 (e7 0) (a8 b8 f9))) b8) b8) (g7 (g8 3 sc.nd (a9 (p9 (n:=2) (i7 (i8 Q1 (i8 a1z b8 b8) b8) (i7 (i8 Q1 (i8 s9 (i8 u8 (i8 a1z (l5 cE hr (a8 (e7 0) (a8 b8 f9))) b8) (i8 Q1 (i8 F7 b8 (i8 a1z b8 b8)) b8)) b8) (i8 a1z b8 b8)) l0)))))) z8) (b7 (g8 4 sc.nd (a9 (p9 (n:=0) l0))) (b7 (D9 rfl bJ (t5 B.range_ (f8 1)) (A8 5 sc.nd) U1 b1w (PSsX.weak (b7 (g8 6 sc.nd (a9 (p9 (n:=0) l0))) (b7 (D9 rfl bJ (t5 B.range_ (f8 2)) (A8 7 sc.nd) U1 b1w (PSsX.weak (b7 (g8 8 sc.nd (a9 (l5 cE hr (a8 (e7 0) (a8 (i8 s9 (i8 s9 b8 (i8 F7 (f8 5) (f8 2))) (f8 7)) f9))))) (g7 (a0K 6 (U2 6) (a9 (a0g (n:=2) (i7 (PX.newi (a6a (a7O 3) (i8 u8 (f8 8) b8))) (i7 (i8 u8 (i8 a8y (f8 8) b8) (f8 1)) l0)))) a3s))) n5 ((m6 7).trans (m6 8)))) (g7 (a0K 4 (U2 4) (D5 6) a3s)))) n5 (m6 5))) (b7 (K7 (u5 O7 (i8 u8 (l5 cE hr (a8 (e7 0) (a8 b8 f9))) b8) b8) (g7 (g8 4 sc.nd (a9 (l5 jN hr (a8 (e7 0) (a8 (w8 4) f9)))))) z8) (b7 (K7 (u5 O7 (i8 u8 (l5 cE hr (a8 (e7 0) (a8 b8 f9))) b8) b8) (g7 (a3t 4 sc.nd rfl (tn:=["_law_s"]) (ys:=["_law_script","_law_pool"]) (t5 B.range_ b8) rfl (λ_ _ _ _ _=>p5 (i:=0) c4b rfl (dW rfl) (.inr rfl)) A0 (.inl rfl) a7f rfl (λ_ _ _ _ _=>x4) (λ_ _ _ _ _=>(p9 (n:=1) (i7 (a0g (n:=2) (i7 (PX.newi (a6a (a7O 2) (b9r b9u B.int_ PyProof.Rows.Boot.«int» (a8 (a1D O7 (f8 0) (i8 u8 (l5 cE hr (a8 (e7 1) (a8 b8 f9))) b8)) f9)))) (i7 (i8 u8 (i8 s9 (f8 0) b8) b8) l0))) l0))))) z8) (g7 (k8 (D5 4))))))))))
def b_law_size:EvS:=(g9 (j8 3 (eC (.int 1))) (g9 (C6 (iR (e2 D7 (eCl (D0 yn) (a7 (eC (.int 0)) (a7 (e2 a1y (a6 2) (a6 0)) b9))) (eC (.int 1)))) (r0 4) (j8 3 (e2 D7 (eC (.int 1)) (e2 Q0 (a6 1) (a6 3))))) (u7 (e2 Q0 (e2 Q0 (a6 0) (a6 3)) (eCl (D0 yn) (a7 (eC (.int 1)) (a7 (e2 a1y (a6 0) (eC (.int 1))) b9)))))))
def m_law_size:=fnD [.i,.i,.i] 2 b_law_size
abbrev a0S(B:Bk P w K mg base)(k:Nat):=HB B "_law_size" k ["_law_states","_law_asks","_law_most_here"] (spD K 3 m_law_size .i)
def ok_law_size(B:Bk P w K mg base):a0S B 1:=
 n6 B.d3 λ_ _ F=>fnF F ["_law_states","_law_asks","_law_most_here","_law_lists","_law_k"] λsc _ _ _ _ _ _ _=>by exact b7 (g8 3 sc.nd (a9 b8)) (b7 (D9 rfl bJ (t5 B.range_ (i8 s9 (Q3 (a1F rfl) B.max_ PyProof.Rows.Boot.«max» (a8 b8 (a8 (i8 Q1 (f8 2) (f8 0)) f9))) b8)) (A8 4 sc.nd) U1 b1w (PSsX.weak (g7 (g8 3 sc.nd (a9 (i8 s9 b8 (i8 F7 (f8 1) (f8 3)))))) n5 (m6 4))) (g7 (k8 (a9 (i8 F7 (i8 F7 (f8 0) (f8 3)) (Q3 (a1F rfl) B.max_ PyProof.Rows.Boot.«max» (a8 b8 (a8 (i8 Q1 (f8 0) b8) f9))))))))
def b_law_most:EvS:=(g9 (j8 3 (a6 1)) (g9 (sWh (λ_=>1000000) (tAn (tB (e2 dLt (a6 3) (eC (.int 30)))) (tB (e2 dLe (eCl m_law_size (a7 (a6 1) (a7 (a6 2) (a7 (a6 3) b9)))) (eC (.int 3000))))) (j8 3 (e2 D7 (a6 3) (eC (.int 1))))) (g9 (j8 4 (e2 G8 (eCl m_law_mixed (a7 (a6 0) (a7 (eC (.int 4)) b9))) (eC (.int 8)))) (g9 (sIf (tB (e2 dEq (a6 4) (eC (.int 0)))) (u7 (eCl (D0 yn) (a7 (eC (.int 1)) (a7 (e2 a1y (a6 3) (eC (.int 1))) b9)))) G9) (g9 (sIf (tB (e2 dLt (a6 4) (eC (.int 3)))) (u7 (a6 3)) G9) (g9 (j8 5 (e2 D7 (a6 1) (e2 G8 (eCl m_law_mixed (a7 (a6 0) (a7 (eC (.int 5)) b9))) (eC (.int 3))))) (g9 (sIf (tB (e2 dEq (a6 4) (eC (.int 3)))) (j8 5 (e2 D7 (eC (.int 1)) (e2 G8 (eCl m_law_mixed (a7 (a6 0) (a7 (eC (.int 5)) b9))) (eC (.int 30))))) G9) (g9 (sWh (λ_=>1000000) (tAn (tB (e2 dGt (a6 5) (a6 1))) (tB (eCh dLt dLe (eC (.int 400)) (eCl m_law_size (a7 (a6 1) (a7 (a6 2) (a7 (a6 5) b9)))) (eC (.int 3000))))) (j8 5 (e2 a1y (a6 5) (eC (.int 1))))) (u7 (eCl (D0 yH) (a7 (eC (.int 30)) (a7 (a6 5) b9))))))))))))
def m_law_most:=fnD [.f,.i,.i] 3 b_law_most
abbrev a4a(B:Bk P w K mg base)(k:Nat):=HB B "_law_most" k ["_law_script","_law_states","_law_asks"] (spD K 3 m_law_most .i)
def ok_law_most(B:Bk P w K mg base)(cE:L3 B 1)(gv:a0S B 1):a4a B 2:=
 n6 B.d4 λ_ _ F=>fnF F ["_law_script","_law_states","_law_asks","_law_edge","_law_way","_law_most_here"] λsc _ _ _ _ _ _ hr=>by exact b7 (g8 3 sc.nd (a9 (PX.newi (f8 1)))) (b7 (X9 (M:=[mdF,mdI,mdI,mdI,mdD,mdD]) (λ_=>1000000) bJ (PWX.pt (a9W (u5 a9U (f8 3) b8) (a7a (u5 a3k (l5 gv hr (a8 (f8 1) (a8 (f8 2) (a8 (f8 3) f9)))) b8)))) (g7 (g8 3 sc.nd (a9 (i8 s9 (f8 3) b8))))) (b7 (g8 4 sc.nd (a9 (i8 u8 (l5 cE hr (a8 (e7 0) (a8 b8 f9))) b8))) (b7 (K7 (u5 O7 (f8 4) b8) (g7 (k8 (a9 (Q3 (a1F rfl) B.max_ PyProof.Rows.Boot.«max» (a8 b8 (a8 (i8 Q1 (f8 3) b8) f9)))))) z8) (b7 (K7 (u5 a9U (f8 4) b8) (g7 (k8 (a9 (PX.newi (f8 3))))) z8) (b7 (g8 5 sc.nd (a9 (i8 s9 (f8 1) (i8 u8 (l5 cE hr (a8 (e7 0) (a8 b8 f9))) b8)))) (b7 (K7 (u5 O7 (f8 4) b8) (g7 (g8 5 sc.nd (a9 (i8 s9 b8 (i8 u8 (l5 cE hr (a8 (e7 0) (a8 b8 f9))) b8))))) z8) (b7 (X9 (M:=[mdF,mdI,mdI,mdI,mdI,mdI]) (λ_=>1000000) bJ (PWX.pt (a9W (u5 a5i (f8 5) (f8 1)) (a7a (a1E a9U a3k b8 (l5 gv hr (a8 (f8 1) (a8 (f8 2) (a8 (f8 5) f9)))) b8)))) (g7 (g8 5 sc.nd (a9 (i8 Q1 (f8 5) b8))))) (g7 (k8 (a9 (Q3 (b9t rfl) B.min_ PyProof.Rows.Boot.«min» (a8 b8 (a8 (f8 5) f9)))))))))))))
def a0T:EvS:=(u7 (a6Z (e1 (λd=>cz (.bool (isInt d))) (a6 0)) (b6z (e1 (λd=>cz (.bool (isBool d))) (a6 0)))))
def A9:=fnD [.f] 0 a0T
abbrev a0U(B:Bk P w K mg base)(k:Nat):=HB B "is_whole" k ["thing"] (spD K 1 A9 .i)
def a7W(B:Bk P w K mg base):a0U B 1:=
 n6 B.d5 λ_ _ F=>fnF F ["thing"] λ_ _ _ _ _ _ _ _=>by exact g7 (k8 (a9 (a3m (a8E b6C B.isinstance_ B.int_ PyProof.Rows.Boot.«int» (e7 0)) (a3l (b9p (a8E b3u B.isinstance_ B.bool_ PyProof.Rows.Boot.«bool» (e7 0)))))))
def a2z:EvS:=(sIf (a1C (tNo (tV (eCl A9 (a7 (a6 0) b9)))) (tNo (tB (eCh dLe dLe (eC (.int 1)) (a6 0) (a6 1))))) sNo G9)
def L4:=fnN [.f,.i] 0 a2z
abbrev Y8(B:Bk P w K mg base)(k:Nat):=HB B "need_size" k ["thing","most"] (spD K 2 L4 .i)
def a6y(B:Bk P w K mg base)(gU:a0U B 1):Y8 B 2:=
 n6 B.d6 λ_ _ F=>c3H F ["thing","most"] [.own .f,.own .i] λ_ _ _ _ _ _ _ hr=>by exact g7 (K7 (PWX.pt (Q2 (a0e (w9 (l5 gU hr (a8 (e7 0) f9)))) (a1d (a0e (a1E a3k a3k b8 (e7 0) (f8 1)))))) (g7 (b8t)) z8)
def U7:EvR:=(rIf (a1C (tNo (tV (eCl A9 (a7 (a6 0) b9)))) (tNo (tB (eCh dLe dLe (eC (.int 1)) (a6 0) (a6 1))))) (λ_=>cz "NoSize") rNo)
def v9:=fnR [.f,.i] 0 U7
abbrev Y9(B:Bk P w K mg base)(k:Nat):=HR B "need_size" k ["thing","most"] (spR K 2 v9)
def a4O(B:Bk P w K mg base)(gU:a0U B 1):Y9 B 2:=
 b0p B.d6 λ_ _ F=>c2k F ["thing","most"] λ_ _ _ _ _ _ _ L hr=>by
 obtain⟨_,qu⟩:=B.r_NoSize;exact b4H (a0n (b8A (PWX.pt (Q2 (a0e (w9 (l5 gU hr (a8 (e7 0) f9)))) (a1d (a0e (a1E a3k a3k b8 (e7 0) (f8 1)))))) (a0n (a7L L qu)) (b8z)))
def O8:EvS:=(g9 (j8 2 (eC (.dict []))) (g9 (C6 (iI (iL (a6 0))) (r0 3) (b3S (V8 2 yH (e2 u6 (a6 1) (a6 3)) (a6 3)))) (u7 (a6p (a6 2)))))
def x9:=fnD [.f,.f] 2 O8
abbrev O9(B:Bk P w K mg base)(k:Nat):=HB B "first_of_classes" k ["states","finest"] (spD K 2 x9 (.l .i))
def a0s(B:Bk P w K mg base):O9 B 1:=
 n6 B.d7 λ_ _ F=>fnF F ["states","finest","found","state"] λsc _ _ _ _ _ _ hr=>by exact b7 (g8 2 sc.nd (a9 (Y1 yH .i))) (b7 (D9 rfl bJ (PIX.i (o6 (PX.newf (e7 0)))) (A8 3 sc.nd) U1 b3D (PSsX.weak (g7 (c0e (a7s 2 (by exact hr.units) (A7 (e7 1) (f8 3)) (PX.newi (f8 3))))) n5 (m6 3))) (g7 (k8 (a9 (b4f rfl B.list_ (w8 2))))))
def U8:EvS:=(u7 (o8 (iI (iL (a6 0))) [1] pt2 tT (T8 (a7 (a6 0) (a7 (e2 u6 (a6 2) (a6 1)) b9)))))
def j9:=fnD [.f,.f] 0 U8
abbrev N3(B:Bk P w K mg base)(k:Nat):=HB B "renumbered" k ["row","numbers"] (spD K 2 j9 (.l .i))
def a4P(B:Bk P w K mg base):N3 B 1:=
 n6 B.d8 λ_ _ F=>fnF F ["row","numbers"] λ_ _ _ _ _ _ _ _=>by exact g7 (k8 (a9 (B8 rfl (tn:=["answer","after"]) (ys:=["numbers"]) (m:=.i) (PIX.i (o6 (PX.newf (e7 0)))) rfl (λ_ _ _ _ _=>a2Z rfl (y7 (p5 (i:=0) c2D rfl (dW rfl) (.inr rfl)) (y7 (p5 (i:=1) c2D rfl (dW rfl) (.inr rfl)) a0a))) b6E (.inl rfl) c1D rfl (λ_ _ _ _ _=>x4) (λ_ _ _ _ _=>(a0g (n:=2) (i7 (PX.newi (f8 0)) (i7 (A7 (e7 2) (f8 1)) l0)))))))
def a0z:EvS:=(g9 (j8 2 (eC (.dict []))) (g9 (j8 3 (v6 b9)) (g9 (C6 (iL (a6 0)) (r0 4) (g9 (j8 5 (X4 (eCl j9 (a7 (a6 4) (a7 (a6 1) b9))))) (a7r 3 (V8 2 yn (a6 5) (eCl b0c (a7 (a6 2) b9)))))) (u7 (a6 3)))))
def u9:=fnD [.f,.f] 4 a0z
abbrev a0A(B:Bk P w K mg base)(k:Nat):=HB B "finer_level" k ["machine","level"] (spD K 2 u9 (.l .i))
def a4b(B:Bk P w K mg base)(er:N3 B 1):a0A B 2:=
 n6 B.d9 λ_ _ F=>fnF F ["machine","level","numbers","finer","row","seen"] λsc _ _ _ _ _ _ hr=>by exact b7 (g8 2 sc.nd (a9 (Y1 yn .i))) (b7 (g8 3 sc.nd (a9 (p9 (n:=0) l0))) (b7 (D9 rfl bJ (o6 (PX.newf (e7 0))) (A8 4 sc.nd) a1G (λ_ _ _ _ _=>trivial) (PSsX.weak (b7 (g8 5 sc.nd (a9 (a3p B.tuple_ (l5 er hr (a8 (e7 4) (a8 (e7 1) f9)))))) (g7 (b6T 3 (a7s 2 (kt:=yn) (by exact hr.units) (PX.newi (f8 5)) (b6Q (kt:=yn) B.len_ (w8 2))) (hni:=a8R (by decide))))) n5 ((m6 4).trans (m6 5)))) (g7 (k8 (D5 3)))))
def a2A:EvS:=(g9 (j8 1 (v6 (a7 (o8 (iL (a6 0)) [] pt1 tT (eC (.int 0))) b9))) (g9 (j8 2 (eCl u9 (a7 (a6 0) (a7 (e2 a4G (a6 1) (eC (.int (-1)))) b9)))) (g9 (sWh (λ_=>1000000) (tB (e2 dGt (eCl a0x (a7 (a6 2) b9)) (eCl a0x (a7 (e2 a4G (a6 1) (eC (.int (-1)))) b9)))) (g9 (a0l 1 2 (eCl u9 (a7 (a6 0) (a7 (a6 2) b9)))) G9)) (u7 (a6 1)))))
def E8:=fnD [.f] 2 a2A
abbrev Z0(B:Bk P w K mg base)(k:Nat):=HB B "levels_of" k ["machine"] (spD K 1 E8 (.l (.l .i)))
def a6z(B:Bk P w K mg base)(hJ:a0A B 2):Z0 B 3:=
 n6 B.d10 λ_ _ F=>fnF F ["machine","levels","finer"] λsc _ _ _ _ _ _ hr=>by exact b7 (g8 1 sc.nd (a9 (p9 (n:=1) (i7 (B8 rfl (tn:=["row"]) (ys:=[]) (m:=.f) (o6 (PX.newf (e7 0))) rfl (λ_ _ _ _ _=>p5 (i:=0) c4c rfl (dW rfl) (.inr rfl)) A0 (.inr rfl) a7e rfl (λ_ _ _ _ _=>x4) (λ_ _ _ _ _=>b8)) l0)))) (b7 (g8 2 sc.nd (a9 (l5 hJ hr (a8 (e7 0) (a8 (a6a (w8 1) (a3n)) f9))))) (b7 (X9 (λ_=>1000000) bJ (u5 a5i (Q3 (b0e rfl) B.max_ PyProof.Rows.Boot.«max» (a8 (a7O 2) f9)) (Q3 (b0e rfl) B.max_ PyProof.Rows.Boot.«max» (a8 (a6a (w8 1) (a3n)) f9))) (b1G 1 2 (by decide) sc.nd rfl rfl rfl rfl (a7v hJ hr (a0k (PXL.of (e7 0)) (a0k (a7t) (a7u))) (hfl:=(l7 (l7 E4)))) z8)) (g7 (k8 (D5 1)))))
def a2B:(List D->Option D)->EvS:=λgm=>(g9 (j8 2 (eD1 yH (a6 0) (v6 b9))) (g9 (j8 3 (v6 (a7 (a6 0) b9))) (g9 (sWh (λ_=>1000000) (tV (a6 3)) (g9 (j8 4 (v6 b9)) (g9 (C6 (iI (iL (a6 3))) (r0 5) (C6 (iI (iEn (eCl gm (a7 (a6 5) b9)))) (a3r 6 7) (sIf (tB (e2 (dIn yn yH) (a6 7) (a6 2))) (g9 (J0 2 yH (a6 7) (eI (U0 (e2 (a6k yH) (a6 2) (a6 5)) (v6 (a7 (a6 6) b9))))) (Q4 4 (.l .i) C3 (a6 7))) G9))) (j8 3 (a6 4))))) (u7 (a6 2)))))
def P5:=fnL [.i] 6 a2B
abbrev a2C(B:Bk P w K mg base)(k:Nat):=HB B "ways_from" k ["start","led_to"] (spL K 1 (λgm=>FnV P w K mg base 1 1 (.l .i) gm) P5 (.d yH (.l .i)))
def a6A(B:Bk P w K mg base):a2C B 2:=
 n6 B.d11 λ_ _ F=>c3I F ["start","led_to","found","newest","newer","place","ask","after"] λsc gm _ _ _ _ _ _ hr=>by exact b7 (g8 2 sc.nd (a9 (b4a (kt:=yH) (by exact hr.units) (f8 0) (p9 (n:=0) l0)))) (b7 (g8 3 sc.nd (a9 (p9 (n:=1) (i7 (PX.newi (f8 0)) l0)))) (b7 (X9 (M:=[mdI,.fn (FnV P w K mg base 1 1 (.l .i) gm),.own (.d yH (.l .i)),mdL,mdD,mdD,mdD,mdD]) (λ_=>1000000) bJ (w9 (a7O 3)) (b7 (g8 4 sc.nd (a9 (p9 (n:=0) l0))) (b7 (PSX.weak (D9 (M:=[mdI,.fn (FnV P w K mg base 1 1 (.l .i) gm),.own (.d yH (.l .i)),mdF,mdL,mdD,mdD,mdD]) rfl bJ (PIX.i (o6 (PX.newf (e7 3)))) (A8 5 sc.nd) U1 b3D (PSsX.weak (g7 (a6n (fi:=(iI (iEn (eCl gm (a7 (a6 5) b9))))) (M:=[mdI,.fn (FnV P w K mg base 1 1 (.l .i) gm),.own (.d yH (.l .i)),mdF,mdL,mdI,mdD,mdD]) rfl bJ (c0i B.enumerate_ (PX.frz (b4v 1 (k:=1) (n:=1) (m:=gm) (hr.mono (by decide)) (a8 (f8 5) f9) (hfl:=(l7 E4))))) (a2Z rfl (y7 (A8 6 sc.nd) (y7 (A8 7 sc.nd) a0a))) (a8H (w:=.i) (.inr rfl)) (λZ ds h d hd _=>b3D Z ds h d hd) b3Z (PSsX.weak (g7 (K7 (b9Z (kt:=yH) (b1B (by exact hr.units)) (f8 7) (w8 2)) (b7 (a2P 2 (kt:=yH) (by exact hr.units) (f8 7) (a9 (MkL.i (a6e (c0b (kt:=yH) (by exact hr.units) (w8 2) (f8 5)) (p9 (n:=1) (i7 (PX.newi (f8 6)) l0)))))) (g7 (a0K 4 (U2 4) (a9 (PX.newi (f8 7))) a3s))) z8)) n5 ((m6 6).trans (m6 7))))) n5 (m6 5))) (X8 3) n5) (g7 (g8 3 sc.nd (D5 4)))))) (g7 (k8 (D5 2)))))
def V9:EvS:=(u7 (b7z P5 [.i] [0] (o8 (iI (iL (e2 dIx (a6 1) (a6 0)))) [] pt1 tT (e2 u6 (a6 0) (eC (.int 1)))) (a7 (eC (.int 0)) b9)))
def t6:=fnD [.f] 0 V9
abbrev L9(B:Bk P w K mg base)(k:Nat):=HB B "ways_by_state" k ["machine"] (spD K 1 t6 (.d yH (.l .i)))
def a1X(B:Bk P w K mg base)(jM:a2C B 2)(LT:(C4 K "ways_by_state").isSome=yn)(KB:K.In base)(GB:base.Ns bp mg):L9 B 3:=
 b7B B.d12 λ_ _ F a=>c3J F ["machine"] LT KB GB a λ_ _ _ wO w_ wK A outer s H _ hr=>by exact g7 (k8 (a9 (by exact a9d (kf:=0) (uf:=(.l .i)) (N:=["state","machine"]) (pl:=["state"]) (ys:=["machine"]) jM hr (b4y b8 (b7y (by decide) w_ wO wK rfl)) ⟨_,_,_,rfl,rfl,rfl,rfl,rfl,rfl⟩ ⟨⟨_,rfl⟩,trivial⟩ (by exact⟨rfl,rfl,rfl,by decide +kernel,rfl,by decide +kernel,by decide +kernel,by decide +kernel,rfl⟩) rfl (λ_ _ _ us hl=>by obtain⟨_,rfl⟩:=VS.b7k hl;rfl) (λfa c A outer s H hr=>B8 rfl (tn:=["step"]) (ys:=[]) (PIX.i (o6 (D8 (PX.newf (e7 1)) (f8 0)))) rfl (λ_ _ _ _ _=>p5 (i:=0) c4d rfl (dW rfl) (.inr rfl)) A0 (.inl rfl) a5n rfl (λ_ _ _ _ _=>x4) (λ_ _ _ _ _=>(A7 (f8 0) b8))) (hfl:=(b4x b7u)))))
def a5A:EvS:=(u7 (a6o (eCl t6 (a7 (a6 0) b9))))
def a0o:=fnD [.f] 0 a5A
abbrev a5B(B:Bk P w K mg base)(k:Nat):=HB B "reached" k ["machine"] (spD K 1 a0o (.l .i))
def a9r(B:Bk P w K mg base)(eW:L9 B 3):a5B B 4:=
 n6 B.d13 λ_ _ F=>fnF F ["machine"] λ_ _ _ _ _ _ _ hr=>by exact g7 (k8 (a9 (b4e rfl B.list_ (l5 eW hr (a8 (e7 0) f9)))))
def b0t:EvS:=(g9 (j8 1 (e2 dIx (eCl E8 (a7 (a6 0) b9)) (eC (.int (-1))))) (g9 (j8 2 (eCl x9 (a7 (eCl a0o (a7 (a6 0) b9)) (a7 (a6 1) b9)))) (g9 (j8 3 (eC (.dict []))) (g9 (C6 (iI (iEn (a6 2))) (a3r 4 5) (J0 3 yH (e2 u6 (a6 1) (a6 5)) (a6 4))) (g9 (j8 6 (o8 (iI (iL (a6 1))) [3] pt1 tT (e2 (a3y yH) (a6 1) (a6 0)))) (u7 (o8 (iI (iL (a6 2))) [0,6] pt1 tT (eCl j9 (a7 (e2 dIx (a6 1) (a6 0)) (a7 (a6 2) b9))))))))))
def N4:=fnD [.f] 6 b0t
abbrev a2U(B:Bk P w K mg base)(k:Nat):=HB B "least" k ["machine"] (spD K 1 N4 (.l (.l .i)))
def b4S(B:Bk P w K mg base)(gw:O9 B 4)(er:N3 B 4)(gC:Z0 B 4)(kY:a5B B 4):a2U B 5:=
 n6 B.d14 λ_ _ F=>fnF F ["machine","finest","firsts","places","place","state","numbers"] λsc _ _ _ _ _ _ hr=>by exact b7 (g8 1 sc.nd (a9 (D8 (PX.frz (l5 gC hr (a8 (e7 0) f9))) (a3n)))) (b7 (g8 2 sc.nd (a9 (l5 gw hr (a8 (l5 kY hr (a8 (e7 0) f9)) (a8 (e7 1) f9))))) (b7 (g8 3 sc.nd (a9 (Y1 yH .i))) (b7 (PSX.weak (a6n (fi:=(iI (iEn (a6 2)))) rfl bJ (c0i B.enumerate_ (PX.newf (e7 2))) (a2Z rfl (y7 (A8 4 sc.nd) (y7 (A8 5 sc.nd) a0a))) (a8H (.inr rfl)) (λZ ds h d hd _=>b3D Z ds h d hd) b3Z (PSsX.weak (g7 (a2P 3 (by exact hr.units) (A7 (e7 1) (f8 5)) (a9 (PX.newi (f8 4))))) n5 ((m6 4).trans (m6 5)))) (X8 2) n5) (b7 (g8 6 sc.nd (a9 (B8 rfl (tn:=["number"]) (ys:=["places"]) (PIX.i (o6 (PX.newf (e7 1)))) rfl (λ_ _ _ _ _=>p5 (i:=0) c4e rfl (dW rfl) (.inr rfl)) A0 (.inl rfl) a5n rfl (λ_ _ _ _ _=>x4) (λ_ _ _ _ _=>(PX.newi (c0c (by exact hr.units) (w8 1) (f8 0))))))) (g7 (k8 (a9 (B8 rfl (tn:=["state"]) (ys:=["machine","numbers"]) (PIX.i (o6 (PX.newf (e7 2)))) rfl (λ_ _ _ _ _=>p5 (i:=0) c4f rfl (dW rfl) (.inr rfl)) A0 (.inl rfl) a5n rfl (λ_ _ _ _ _=>x4) (λ_ _ _ _ _=>(l5 er hr (a8 (D8 (PX.newf (e7 1)) (f8 0)) (a8 (a7O 2) f9))))))))))))
def b4T:EvS:=(u7 (T8 (a7 (eCl J8 (a7 (a6 0) b9)) (a7 (a6 0) b9))))
def a0V:=fnD [.i] 0 b4T
abbrev a9s(B:Bk P w K mg base)(k:Nat):=HB B "rank" k ["probe"] (spD K 1 a0V .i)
def b7I(B:Bk P w K mg base):a9s B 1:=
 n6 B.d15 λ_ _ F=>fnF F ["probe"] λ_ _ _ _ _ _ _ _=>by exact g7 (k8 (a9 (a0g (n:=2) (i7 (z9 B.len_ (f8 0)) (i7 (PX.newi (f8 0)) l0)))))
def a0B:EvS:=(g9 (j8 1 (eC (.dict []))) (g9 (C6 (iL (a6 0)) (r0 2) (sIf (tB (e2 (a8x yn) (a6 2) (eC .none))) (J0 1 yn (X4 (a6 2)) (eC (.bool yn))) G9)) (u7 (b7s (o8 (iI (iL (a0Q a0V (a6 1)))) [] pt1 tT (eI (V6 (a6 0)))) (v6 (a7 (v6 b9) b9))))))
def C7:=fnD [.f] 2 a0B
abbrev a0C(B:Bk P w K mg base)(k:Nat):=HB B "marks_among" k ["probes"] (spD K 1 C7 (.l (.l .i)))
def a4c(B:Bk P w K mg base)(kZ:a9s B 1):a0C B 4:=
 n6 B.d16 λ_ _ F=>fnF F ["probes","found","probe"] λsc _ _ _ _ _ _ hr=>by exact b7 (g8 1 sc.nd (a9 (Y1 yn .i))) (b7 (D9 rfl bJ (o6 (PX.newf (e7 0))) (A8 2 sc.nd) a1G (λ_ _ _ _ _=>trivial) (PSsX.weak (g7 (K7 (u5 b6y (e7 2) a8z) (g7 (a2P 1 (kt:=yn) (by exact hr.units) (a3p B.tuple_ (e7 2)) (a9 V5))) z8)) n5 (m6 2))) (g7 (k8 (a9 (c0r (B8 rfl (tn:=["probe"]) (ys:=[]) (m:=.i) (PIX.i (o6 (PX.frz (a7G rfl B.sorted_ kZ hr (w8 1))))) rfl (λ_ _ _ _ _=>p5 (i:=0) c2E rfl (dW rfl) (.inr rfl)) A0 (.inl rfl) a5n rfl (λ_ _ _ _ _=>x4) (λ_ _ _ _ _=>(MkL.i (a6d B.list_ (PX.newi (f8 0)))))) (a3l (p9 (n:=1) (i7 (p9 (n:=0) l0) l0))))))))
def W1:EvS:=(g9 (j8 2 (eC (.int 0))) (g9 (sWh (λ_=>1000000) (tB (e2 dEq (e2 u6 (a6 0) (a6 2)) (e2 u6 (a6 1) (a6 2)))) (b3V 2 (eC (.int 1)))) (u7 (a6 2))))
def t7:=fnD [.f,.f] 1 W1
abbrev W2(B:Bk P w K mg base)(k:Nat):=HB B "first_parting" k ["seen","against"] (spD K 2 t7 .i)
def a1Y(B:Bk P w K mg base):W2 B 1:=
 n6 B.d17 λ_ _ F=>fnF F ["seen","against","ask"] λsc _ _ _ _ _ _ hr=>by exact b7 (g8 2 sc.nd (a9 b8)) (b7 (X9 (λ_=>1000000) bJ (u5 O7 (A7 (e7 0) (f8 2)) (A7 (e7 1) (f8 2))) (g7 (c0f 2 sc.nd b8))) (g7 (k8 (a9 (PX.newi (f8 2))))))
def Z3:EvS:=(g9 (j8 4 (e2 a3z (o8 (iL (a6 1)) [2,3] pt1 tT (e2 dEq (e2 u6 (a6 0) (a6 1)) (e2 u6 (a6 0) (a6 2)))) (eC (.bool yn)))) (g9 (sIf (tB (e2 dEq (a6 4) (eCl J8 (a7 (a6 1) b9)))) (u7 (eC .none)) G9) (g9 (j8 5 (v6 b9)) (g9 (C6 (iRv (eSl (a6 1) oNo (oSo (a6 4)))) (r0 6) (g9 (j8 7 (eCl t7 (a7 (eCl j9 (a7 (e2 dIx (a6 0) (a6 2)) (a7 (a6 6) b9))) (a7 (eCl j9 (a7 (e2 dIx (a6 0) (a6 3)) (a7 (a6 6) b9))) b9)))) (g9 (Q4 5 (.l .i) C3 (a6 7)) (g9 (j8 2 (e2 u6 (e2 u6 (e2 dIx (a6 0) (a6 2)) (a6 7)) (eC (.int 1)))) (j8 3 (e2 u6 (e2 u6 (e2 dIx (a6 0) (a6 3)) (a6 7)) (eC (.int 1)))))))) (u7 (a6 5))))))
def B0:=fnD [.f,.f,.i,.i] 4 Z3
abbrev Z4(B:Bk P w K mg base)(k:Nat):=HB B "first_unlike" k ["machine","levels","one","other"] (spD K 4 B0 (.l .i))
def a2M(B:Bk P w K mg base)(er:N3 B 1)(ig:W2 B 1):Z4 B 2:=
 n6 B.d18 λ_ _ F=>fnF F ["machine","levels","one","other","many","probe","level","ask"] λsc _ _ _ _ _ _ hr=>by exact b7 (g8 4 sc.nd (a9 (b3Y (by exact hr.units) (B8 rfl (tn:=["level"]) (ys:=["one","other"]) (m:=.f) (o6 (PX.newf (e7 1))) rfl (λ_ _ _ _ _=>p5 (i:=0) c4g rfl (dW rfl) (.inr rfl)) A0 (.inr rfl) a7e rfl (λ_ _ _ _ _=>x4) (λ_ _ _ _ _=>(a1D O7 (A7 (e7 0) (f8 1)) (A7 (e7 0) (f8 2))))) V5))) (b7 (K7 (u5 O7 (f8 4) (z9 B.len_ (e7 1))) (g7 (k8 (a9 (PX.itol a8z)))) z8) (b7 (g8 5 sc.nd (a9 (p9 (n:=0) l0))) (b7 (D9 rfl bJ (b6U B.reversed_ (PX.frz (MkL.fz (b3z (PX.newf (e7 1)) b3w (b3x (f8 4)))))) (A8 6 sc.nd) a1G (λ_ _ _ _ _=>trivial) (PSsX.weak (b7 (g8 7 sc.nd (a9 (l5 ig hr (a8 (l5 er hr (a8 (D8 (PX.newf (e7 0)) (f8 2)) (a8 (e7 6) f9))) (a8 (l5 er hr (a8 (D8 (PX.newf (e7 0)) (f8 3)) (a8 (e7 6) f9))) f9))))) (b7 (a0K 5 (U2 5) (a9 (PX.newi (f8 7))) a3s) (b7 (g8 2 sc.nd (a9 (A7 (A7 (D8 (PX.newf (e7 0)) (f8 2)) (f8 7)) b8))) (g7 (g8 3 sc.nd (a9 (A7 (A7 (D8 (PX.newf (e7 0)) (f8 3)) (f8 7)) b8))))))) n5 ((m6 6).trans (m6 7)))) (g7 (k8 (D5 5))))))
def a1o:EvS:=(u7 (o8 (iR (eCl J8 (a7 (a6 0) b9))) [0,1,2] pt1 tT (eCl B0 (a7 (a6 1) (a7 (a6 2) (a7 (a6 3) (a7 (a6 0) b9)))))))
def G5:=fnD [.f,.f,.i] 0 a1o
abbrev a1p(B:Bk P w K mg base)(k:Nat):=HB B "apart_from" k ["machine","levels","state"] (spD K 3 G5 (.l (.l .i)))
def a4Q(B:Bk P w K mg base)(iz:Z4 B 2):a1p B 3:=
 n6 B.d19 λ_ _ F=>fnF F ["machine","levels","state"] λ_ _ _ _ _ _ _ hr=>by exact g7 (k8 (a9 (B8 rfl (tn:=["other"]) (ys:=["machine","levels","state"]) (t5 B.range_ (z9 B.len_ (e7 0))) rfl (λ_ _ _ _ _=>p5 (i:=0) c4h rfl (dW rfl) (.inr rfl)) A0 (.inl rfl) a7f rfl (λ_ _ _ _ _=>x4) (λ_ _ _ _ _=>(l5 iz hr (a8 (e7 1) (a8 (e7 2) (a8 (f8 3) (a8 (f8 0) f9)))))))))
def b0u:EvS:=(g9 (j8 1 (eCl E8 (a7 (a6 0) b9))) (u7 (o8 (iR (eCl J8 (a7 (a6 0) b9))) [0,1] pt1 tT (eCl G5 (a7 (a6 1) (a7 (a6 2) (a7 (a6 0) b9)))))))
def a1q:=fnD [.f] 1 b0u
abbrev b0v(B:Bk P w K mg base)(k:Nat):=HB B "apart" k ["machine"] (spD K 1 a1q (.l (.l (.l .i))))
def b4U(B:Bk P w K mg base)(gC:Z0 B 3)(jn:a1p B 3):b0v B 4:=
 n6 B.d20 λ_ _ F=>fnF F ["machine","levels"] λsc _ _ _ _ _ _ hr=>by exact b7 (g8 1 sc.nd (a9 (l5 gC hr (a8 (e7 0) f9)))) (g7 (k8 (a9 (B8 rfl (tn:=["state"]) (ys:=["machine","levels"]) (t5 B.range_ (z9 B.len_ (e7 0))) rfl (λ_ _ _ _ _=>p5 (i:=0) c2F rfl (dW rfl) (.inr rfl)) A0 (.inl rfl) a7f rfl (λ_ _ _ _ _=>x4) (λ_ _ _ _ _=>(l5 jn hr (a8 (e7 1) (a8 (w8 2) (a8 (f8 0) f9)))))))))
def b0w:EvS:=(u7 (o8 (iL (eCl a1q (a7 (a6 0) b9))) [] pt1 tT (eCl C7 (a7 (a6 0) b9))))
def a2V:=fnD [.f] 0 b0w
abbrev b0x(B:Bk P w K mg base)(k:Nat):=HB B "marks" k ["machine"] (spD K 1 a2V (.l (.l (.l .i))))
def b4V(B:Bk P w K mg base)(iT:a0C B 4)(nD:b0v B 4):b0x B 5:=
 n6 B.d21 λ_ _ F=>fnF F ["machine"] λ_ _ _ _ _ _ _ hr=>by exact g7 (k8 (a9 (B8 rfl (tn:=["probes"]) (ys:=[]) (o6 (PX.frz (a6f nD hr (a8 (e7 0) f9) (hfl:=(l7 E4))))) rfl (λ_ _ _ _ _=>p5 (i:=0) c2G rfl (dW rfl) (.inr rfl)) A0 (.inr rfl) a7e rfl (λ_ _ _ _ _=>x4) (λ_ _ _ _ _=>(l5 iT hr (a8 (e7 0) f9))))))
def T2:EvS:=(g9 (j8 2 (v6 b9)) (g9 (C6 (iL (a6 0)) (r0 3) (a7y 2 (o8 (iR (a6 1)) [3] pt1 tT (eI (U0 (a6 1) (v6 (a7 (a6 0) b9))))))) (u7 (a6 2))))
def q9:=fnD [.f,.i] 2 T2
abbrev T3(B:Bk P w K mg base)(k:Nat):=HB B "one_ask_longer" k ["rows","asks"] (spD K 2 q9 (.l (.l .i)))
def a1r(B:Bk P w K mg base):T3 B 1:=
 n6 B.d22 λ_ _ F=>fnF F ["rows","asks","found","row"] λsc _ _ _ _ _ _ _=>by exact b7 (g8 2 sc.nd (a9 (p9 (n:=0) l0))) (b7 (D9 rfl bJ (o6 (PX.newf (e7 0))) (A8 3 sc.nd) a1G (λ_ _ _ _ _=>trivial) (PSsX.weak (g7 (b7d 2 (B8 rfl (tn:=["ask"]) (ys:=["row"]) (m:=.i) (t5 B.range_ (f8 1)) rfl (λ_ _ _ _ _=>p5 (i:=0) c2H rfl (dW rfl) (.inr rfl)) A0 (.inl rfl) a7f rfl (λ_ _ _ _ _=>x4) (λ_ _ _ _ _=>(MkL.i (a6e (PX.newf (e7 1)) (p9 (n:=1) (i7 (PX.newi (f8 0)) l0)))))))) n5 (m6 3))) (g7 (k8 (D5 2))))
def a5C:EvS:=(g9 (j8 2 (v6 (a7 (v6 b9) b9))) (g9 (j8 3 (v6 (a7 (v6 b9) b9))) (g9 (C6 (iR (a6 1)) (r0 4) (g9 (j8 3 (eCl q9 (a7 (a6 3) (a7 (a6 0) b9)))) (a2q 2 3))) (u7 (a6 2)))))
def a0p:=fnD [.i,.i] 3 a5C
abbrev a5D(B:Bk P w K mg base)(k:Nat):=HB B "rows_of" k ["asks","most"] (spD K 2 a0p (.l (.l .i)))
def a9t(B:Bk P w K mg base)(gT:T3 B 1):a5D B 2:=
 n6 B.d23 λ_ _ F=>fnF F ["asks","most","found","newest","many"] λsc _ _ _ _ _ _ hr=>by exact b7 (g8 2 sc.nd (a9 (p9 (n:=1) (i7 (p9 (n:=0) l0) l0)))) (b7 (g8 3 sc.nd (a9 (p9 (n:=1) (i7 (p9 (n:=0) l0) l0)))) (b7 (b7c 2 3 4 (by decide) (by decide) (by decide) rfl rfl bJ sc.nd (t5 B.range_ (f8 1)) (a7v gT hr (a0k (a7t) (a0k (PXL.of (f8 0)) (a7u))) (hfl:=(l7 (l7 E4))))) (g7 (k8 (D5 2)))))
def a1Z:EvS:=(u7 (eCl J8 (a7 (e2 dIx (a6 0) (eC (.int 0))) b9)))
def E9:=fnD [.f] 0 a1Z
abbrev a0q(B:Bk P w K mg base)(k:Nat):=HB B "asks_of" k ["machine"] (spD K 1 E9 .i)
def a9u(B:Bk P w K mg base):a0q B 1:=
 n6 B.d24 λ_ _ F=>fnF F ["machine"] λ_ _ _ _ _ _ _ _=>by exact g7 (k8 (a9 (z9 B.len_ (D8 (PX.newf (e7 0)) b8))))
def b4W:EvS:=(g9 (j8 1 (eCl t6 (a7 (a6 0) b9))) (u7 (a6q 1 (eCl J8 (a7 (a6 0) b9)))))
def a0W:=fnD [.f] 1 b4W
abbrev b4X(B:Bk P w K mg base)(k:Nat):=HB B "ways" k ["machine"] (spD K 1 a0W (.l (.l .i)))
def b7J(B:Bk P w K mg base)(eW:L9 B 3):b4X B 4:=
 n6 B.d25 λ_ _ F=>fnF F ["machine","found"] λsc _ _ _ _ _ _ hr=>by exact b7 (g8 1 sc.nd (a9 (l5 eW hr (a8 (e7 0) f9)))) (g7 (k8 (b1R 1 rfl B.range_ (z9 B.len_ (e7 0)) (λ_ _ _ _ _=>p5 (i:=0) c2I rfl (dW rfl) (.inr rfl)) (λ_ _ _ _ _=>b7a (by exact hr.units)))))
def a7X:EvS:=(g9 (j8 3 (v6 b9)) (g9 (C6 (iI (iL (a6 2))) (r0 4) (g9 (j8 5 (e2 u6 (e2 dIx (a6 0) (a6 1)) (a6 4))) (g9 (Q4 3 (.l .i) C3 (e2 u6 (a6 5) (eC (.int 0)))) (j8 1 (e2 u6 (a6 5) (eC (.int 1))))))) (u7 (T8 (a7 (a6 3) (a7 (a6 1) b9))))))
def G6:=fnD [.f,.i,.f] 3 a7X
abbrev a1s(B:Bk P w K mg base)(k:Nat):=HB B "walked" k ["machine","state","probe"] (spD K 3 G6 (.tp [(.l .i),.i]))
def b2t(B:Bk P w K mg base):a1s B 1:=
 n6 B.d26 λ_ _ F=>fnF F ["machine","state","probe","answers","ask","step"] λsc _ _ _ _ _ _ _=>by exact b7 (g8 3 sc.nd (a9 (p9 (n:=0) l0))) (b7 (D9 rfl bJ (PIX.i (o6 (PX.newf (e7 2)))) (A8 4 sc.nd) U1 b3D (PSsX.weak (b7 (g8 5 sc.nd (a9 (A7 (D8 (PX.newf (e7 0)) (f8 1)) (f8 4)))) (b7 (a0K 3 (U2 3) (a9 (A7 (f8 5) b8)) a3s) (g7 (g8 1 sc.nd (a9 (A7 (f8 5) b8)))))) n5 ((m6 4).trans (m6 5)))) (g7 (k8 (b6G (a7h (D5 3) (a7h (a9 (PX.newi (f8 1))) (b6F)))))))
def a0D:EvS:=(g9 (j8 2 (eCl a2V (a7 (a6 0) b9))) (g9 (j8 3 (eCl a0p (a7 (eCl E9 (a7 (a6 0) b9)) (a7 (e2 D7 (a6 1) (eC (.int 1))) b9)))) (g9 (j8 4 (eC (.dict []))) (g9 (C6 (iEn (eCl a0W (a7 (a6 0) b9))) (a3r 5 6) (C6 (iL (a6 3)) (r0 7) (C6 (iL (e2 dIx (a6 2) (e2 dIx (eCl G6 (a7 (a6 0) (a7 (a6 5) (a7 (a6 7) b9)))) (eC (.int 1))))) (r0 8) (J0 4 yn (X4 (eI (U0 (eI (U0 (a6 6) (a6 7))) (a6 8)))) (eC (.bool yn)))))) (u7 (o8 (iI (iL (a0Q a0V (a6 4)))) [] pt1 tT (eI (V6 (a6 0)))))))))
def C8:=fnD [.f,.i] 7 a0D
abbrev Q6(B:Bk P w K mg base)(k:Nat):=HB B "book_probes" k ["small","extra"] (spD K 2 C8 (.l (.l .i)))
def a4d(B:Bk P w K mg base)(kZ:a9s B 3)(nB:b0x B 5)(kX:a5D B 5)(fU:a0q B 5)(oX:b4X B 5)(hU:a1s B 5):Q6 B 6:=
 n6 B.d27 λ_ _ F=>fnF F ["small","extra","marked","rows","found","state","way","row","mark"] λsc _ _ _ _ _ _ hr=>by exact b7 (g8 2 sc.nd (a9 (a6f nB hr (a8 (e7 0) f9) (hfl:=(l7 E4))))) (b7 (g8 3 sc.nd (a9 (l5 kX hr (a8 (l5 fU hr (a8 (e7 0) f9)) (a8 (i8 s9 (f8 1) b8) f9))))) (b7 (PSX.weak (g8 4 sc.nd (a9 (Y1 yn .i))) ((X8 2).trans (X8 3)) n5) (b7 (a6n (fi:=(iEn (eCl a0W (a7 (a6 0) b9)))) rfl bJ (c0i B.enumerate_ (PX.frz (l5 oX hr (a8 (e7 0) f9)))) (a2Z rfl (y7 (A8 5 sc.nd) (y7 (A8 6 sc.nd) a0a))) (a8H (.inl rfl)) (λ_ _ _ _ _ e=>nomatch e) (λh=>h) (PSsX.weak (g7 (D9 rfl bJ (o6 (PX.newf (e7 3))) (A8 7 sc.nd) a1G (λ_ _ _ _ _=>trivial) (PSsX.weak (g7 (D9 rfl bJ (o6 (D8 (PX.newf (e7 2)) (b3L (j:=1) (l5 hU hr (a8 (e7 0) (a8 (e7 5) (a8 (e7 7) f9))))))) (A8 8 sc.nd) a1G (λ_ _ _ _ _=>trivial) (PSsX.weak (g7 (a2P 4 (by exact hr.units) (a3p B.tuple_ (MkL.i (a6e (MkL.i (a6e (PX.newf (e7 6)) (PX.newf (e7 7)))) (PX.newf (e7 8))))) (a9 V5))) n5 (m6 8)))) n5 (m6 7)))) n5 ((m6 5).trans (m6 6)))) (g7 (k8 (a9 (B8 rfl (tn:=["probe"]) (ys:=[]) (PIX.i (o6 (PX.frz (a7G rfl B.sorted_ kZ hr (w8 4))))) rfl (λ_ _ _ _ _=>p5 (i:=0) c2E rfl (dW rfl) (.inr rfl)) A0 (.inl rfl) a5n rfl (λ_ _ _ _ _=>x4) (λ_ _ _ _ _=>(MkL.i (a6d B.list_ (PX.newi (f8 0))))))))))))
def a2D:EvS:=(g9 (j8 3 (eC (.int 1))) (g9 (C6 (iR (e2 D7 (a6 2) (eC (.int 1)))) (r0 4) (j8 3 (e2 D7 (e2 Q0 (a6 3) (a6 1)) (eC (.int 1))))) (u7 (e2 Q0 (e2 Q0 (a6 0) (a6 3)) (eCl (D0 yn) (a7 (e2 a1y (a6 0) (eC (.int 1))) (a7 (eC (.int 1)) b9)))))))
def L5:=fnD [.i,.i,.i] 2 a2D
abbrev Z5(B:Bk P w K mg base)(k:Nat):=HB B "book_size" k ["states","asks","extra"] (spD K 3 L5 .i)
def a6B(B:Bk P w K mg base):Z5 B 1:=
 n6 B.d28 λ_ _ F=>fnF F ["states","asks","extra","rows","many"] λsc _ _ _ _ _ _ _=>by exact b7 (g8 3 sc.nd (a9 b8)) (b7 (D9 rfl bJ (t5 B.range_ (i8 s9 (f8 2) b8)) (A8 4 sc.nd) U1 b1w (PSsX.weak (g7 (g8 3 sc.nd (a9 (i8 s9 (i8 F7 (f8 3) (f8 1)) b8)))) n5 (m6 4))) (g7 (k8 (a9 (i8 F7 (i8 F7 (f8 0) (f8 3)) (Q3 (a1F rfl) B.max_ PyProof.Rows.Boot.«max» (a8 (i8 Q1 (f8 0) b8) (a8 b8 f9))))))))
def b4Y:EvS:=(g9 (sEx (eCl L4 (a7 (a6 1) (a7 (eC (.int 30)) b9)))) (g9 (j8 2 (eCl N4 (a7 (a6 0) b9))) (g9 (j8 3 (eCl (D0 yn) (a7 (e2 a1y (a6 1) (eCl J8 (a7 (a6 2) b9))) (a7 (eC (.int 0)) b9)))) (g9 (sIf (tB (e2 dGt (eCl L5 (a7 (eCl J8 (a7 (a6 2) b9)) (a7 (eCl E9 (a7 (a6 0) b9)) (a7 (a6 3) b9)))) (eC (.int 3000)))) sNo G9) (g9 (j8 4 (eCl C8 (a7 (a6 2) (a7 (a6 3) b9)))) (u7 (o8 (iL (a6 4)) [0] pt1 tT (T8 (a7 (a6 0) (a7 (e2 dIx (eCl G6 (a7 (a6 1) (a7 (eC (.int 0)) (a7 (a6 0) b9)))) (eC (.int 0))) b9))))))))))
def a4e:=fnD [.f,.f] 3 b4Y
abbrev a9v(B:Bk P w K mg base)(k:Nat):=HB B "book" k ["machine","most"] (spD K 2 a4e .f)
def b7K(B:Bk P w K mg base)(gB:Y8 B 6)(iu:a2U B 6)(fU:a0q B 6)(hU:a1s B 6)(gd:Q6 B 6)(gD:Z5 B 6)(hX:Y9 B 6):a9v B 7:=
 n6 B.d29 λ_ _ F=>fnF F ["machine","most","small","extra","probes"] λsc _ _ _ _ _ _ hr=>by exact b7 (a6h (l5 gB hr (a8 (e7 1) (a8 (a1c B.MOST_STATES_) f9)))) (b7 (g8 2 sc.nd (a9 (l5 iu hr (a8 (e7 0) f9)))) (b7 (g8 3 sc.nd (a9 (Q3 (a1F rfl) B.max_ PyProof.Rows.Boot.«max» (a8 (i8 Q1 (e7 1) (z9 B.len_ (w8 2))) (a8 b8 f9))))) (b7 (K7 (u5 a5i (l5 gD hr (a8 (z9 B.len_ (w8 2)) (a8 (l5 fU hr (a8 (e7 0) f9)) (a8 (f8 3) f9)))) (a1c B.MOST_IN_BOOK_)) (g7 (b8t)) z8) (b7 (g8 4 sc.nd (a9 (l5 gd hr (a8 (w8 2) (a8 (f8 3) f9))))) (g7 (PSX.weak (k8 (a9 (PX.frz (B8 rfl (tn:=["probe"]) (ys:=["machine"]) (o6 (PX.newf (e7 4))) rfl (λ_ _ _ _ _=>p5 (i:=0) c2J rfl (dW rfl) (.inr rfl)) A0 (.inr rfl) a7e rfl (λ_ _ _ _ _=>x4) (λ_ _ _ _ _=>(b9q (i7 (PX.newf (e7 0)) (i7 (b3L (j:=0) (l5 hU hr (a8 (e7 1) (a8 b8 (a8 (e7 0) f9))))) l0)))))))) (X8 4) n5))))))
def a6C:EvR:=(rOr (rCl v9 (a7 (a6 1) (a7 (eC (.int 30)) b9))) (a5v (sEx (eCl L4 (a7 (a6 1) (a7 (eC (.int 30)) b9)))) (a5v (j8 2 (eCl N4 (a7 (a6 0) b9))) (a5v (j8 3 (eCl (D0 yn) (a7 (e2 a1y (a6 1) (eCl J8 (a7 (a6 2) b9))) (a7 (eC (.int 0)) b9)))) (rIf (tB (e2 dGt (eCl L5 (a7 (eCl J8 (a7 (a6 2) b9)) (a7 (eCl E9 (a7 (a6 0) b9)) (a7 (a6 3) b9)))) (eC (.int 3000)))) (λ_=>cz "TooMuch") rNo)))))
def a2a:=fnR [.f,.f] 3 a6C
abbrev a9w(B:Bk P w K mg base)(k:Nat):=HR B "book" k ["machine","most"] (spR K 2 a2a)
def b4Z(B:Bk P w K mg base)(gB:Y8 B 6)(iu:a2U B 6)(fU:a0q B 6)(hU:a1s B 6)(gd:Q6 B 6)(gD:Z5 B 6)(hX:Y9 B 6):a9w B 7:=
 b0p B.d29 λ_ _ F=>c2k F ["machine","most","small","extra","probes"] λsc _ _ _ _ _ _ L hr=>by
 obtain⟨_,o_⟩:=B.r_TooMuch;exact c2i (b4H (a0n (b0o (a7M (c0y L) hX hr (a8 (e7 1) (a8 (a1c B.MOST_STATES_) f9)) (hfl:=(l7 (l7 E4))))))) (a6w (u:=.f) (ML:=[]) (a6h (l5 gB hr (a8 (e7 1) (a8 (a1c B.MOST_STATES_) f9)))) (a6w (u:=.f) (ML:=[]) (g8 2 sc.nd (a9 (l5 iu hr (a8 (e7 0) f9)))) (a6w (u:=.f) (ML:=[]) (g8 3 sc.nd (a9 (Q3 (a1F rfl) B.max_ PyProof.Rows.Boot.«max» (a8 (i8 Q1 (e7 1) (z9 B.len_ (w8 2 (u:=(.l (.l .i)))))) (a8 b8 f9))))) (b4H (a0n (b8A (u5 a5i (l5 gD hr (a8 (z9 B.len_ (w8 2 (u:=(.l (.l .i))))) (a8 (l5 fU hr (a8 (e7 0) f9)) (a8 (f8 3) f9)))) (a1c B.MOST_IN_BOOK_)) (a0n (a7L L o_)) (b8z)))))))
def b_law_refused:EvS:=(g9 (a7N Lx 3 (sEx (eCl a4e (a7 (a6 0) (a7 (a6 1) b9)))) (rCl a2a (a7 (a6 0) (a7 (a6 1) b9))) (g9 (sIf (a1C (tV (Y6 Lx 3 λn=>n=="NoMachine")) (a1C (tV (Y6 Lx 3 λn=>n=="NoState")) (a1C (tV (Y6 Lx 3 λn=>n=="NoProbe")) (tV (Y6 Lx 3 λn=>n=="NoAnswers"))))) (u7 (eC (.bool yH))) G9) (g9 (sIf (a1C (tV (Y6 Lx 3 λn=>n=="Unfit")) (a1C (tV (Y6 Lx 3 λn=>n=="Unsteady")) (a1C (tV (Y6 Lx 3 λn=>n=="Ended")) (tV (Y6 Lx 3 λn=>n=="NoText"))))) (u7 (eC (.bool yH))) G9) (g9 (sIf (a1C (tV (Y6 Lx 3 λn=>n=="NoRow")) (a1C (tV (Y6 Lx 3 λn=>n=="NoName")) (tNo (tV (Y6 Lx 3 λ_=>yn))))) (u7 (eC (.bool yH))) G9) (u7 (a6Z (e2 dEq (Y6 Lx 3 λn=>n=="NoSize") (a6 2)) (e2 dNe (Y6 Lx 3 λn=>n=="TooMuch") (a6 2)))))))) (u7 (eC (.bool yH))))
def m_law_refused:=fnD [.f,.f,.i] 1 b_law_refused
abbrev a0E(B:Bk P w K mg base)(k:Nat):=HB B "_law_refused" k ["_law_machine_here","_law_most_here","_law_size_here"] (spD K 3 m_law_refused .i)
def ok_law_refused(B:Bk P w K mg base)(k_:a9v B 7)(mh:a9w B 7):a0E B 8:=
 n6 B.d30 λ_ _ F=>fnF F ["_law_machine_here","_law_most_here","_law_size_here","e"] λsc _ _ _ _ _ _ hr=>by
 obtain⟨C0,EP,ET⟩:=B.pe;obtain⟨_,oB⟩:=B.i_Ended;obtain⟨_,kL⟩:=B.i_NoAnswers;obtain⟨_,kK⟩:=B.i_NoMachine;obtain⟨_,mZ⟩:=B.i_NoName;obtain⟨_,mr⟩:=B.i_NoProbe;obtain⟨_,oA⟩:=B.i_NoRow;obtain⟨_,mY⟩:=B.i_NoSize;obtain⟨_,mq⟩:=B.i_NoState;obtain⟨_,mX⟩:=B.i_NoText;obtain⟨_,mo⟩:=B.i_TooMuch;obtain⟨_,oz⟩:=B.i_Unfit;obtain⟨_,lF⟩:=B.i_Unsteady;have mO:=B.i_ValueError;exact b7 (b7A (M':=[mdF,mdF,mdI,.exc]) (L:=Lx) 3 rfl rfl sc.nd (g7 (a6h (by exact a3P k_ hr (Y4 (PX.newf (e7 0)) (Y4 (PX.newf (e7 1)) (a6v))) (hfl:=(l7 (l7 E4)))))) (λpn EE W T=>a0n (b0o (a7M T mh hr (a8 (e7 0) (a8 (e7 1) f9)) (hfl:=(l7 (l7 E4)))))) (λaH=>by exact b7 (K7 (M':=[mdF,mdF,mdI,.exc]) (PWX.pt (Q2 (w9 (L8 3 (f:=λn=>n=="NoMachine") (L:=Lx) kK.2 B.isinstance_ kK.1)) (Q2 (w9 (L8 3 (f:=λn=>n=="NoState") (L:=Lx) mq.2 B.isinstance_ mq.1)) (Q2 (w9 (L8 3 (f:=λn=>n=="NoProbe") (L:=Lx) mr.2 B.isinstance_ mr.1)) (a1d (w9 (L8 3 (f:=λn=>n=="NoAnswers") (L:=Lx) kL.2 B.isinstance_ kL.1))))))) (g7 (k8 (a9 V5))) z8) (b7 (K7 (M':=[mdF,mdF,mdI,.exc]) (PWX.pt (Q2 (w9 (L8 3 (f:=λn=>n=="Unfit") (L:=Lx) oz.2 B.isinstance_ oz.1)) (Q2 (w9 (L8 3 (f:=λn=>n=="Unsteady") (L:=Lx) lF.2 B.isinstance_ lF.1)) (Q2 (w9 (L8 3 (f:=λn=>n=="Ended") (L:=Lx) oB.2 B.isinstance_ oB.1)) (a1d (w9 (L8 3 (f:=λn=>n=="NoText") (L:=Lx) mX.2 B.isinstance_ mX.1))))))) (g7 (k8 (a9 V5))) z8) (b7 (K7 (M':=[mdF,mdF,mdI,.exc]) (PWX.pt (Q2 (w9 (L8 3 (f:=λn=>n=="NoRow") (L:=Lx) oA.2 B.isinstance_ oA.1)) (Q2 (w9 (L8 3 (f:=λn=>n=="NoName") (L:=Lx) mZ.2 B.isinstance_ mZ.1)) (a1d (a0e (w9 (c0B 3 (f:=λ_=>yn) (L:=Lx) mO B.isinstance_ B.ValueError_ PyProof.Rows.Boot.«ValueError»))))))) (g7 (k8 (a9 V5))) z8) (g7 (k8 (a9 (a3m (a1D (os_eq hr.units) (L8 3 (f:=λn=>n=="NoSize") (L:=Lx) mY.2 B.isinstance_ mY.1) (f8 2)) (a3l (a1D (c1y hr.units) (L8 3 (f:=λn=>n=="TooMuch") (L:=Lx) mo.2 B.isinstance_ mo.1) (f8 2)))))))))) EP ET) (g7 (k8 (a9 V5)))
def b_law_else:EvS:=(g9 (j8 1 (v6 (a7 (eC (.int 0)) (a7 (eC (.int 31)) (a7 (eC (.int (-1))) (a7 (eC (.int (-30))) (a7 (e2 a6Y (eC (.int 10)) (eC (.int 20))) (a7 (e2 a6Y (eC (.int 10)) (eC (.int 60))) (a7 (eC (.bool yn)) (a7 (eC (.bool yH)) (a7 (eC .none) (a7 (eC (.str "3")) (a7 (v6 (a7 (eC (.int 3)) b9)) (a7 (T8 (a7 (eC (.int 3)) b9)) (a7 (e2 D7 (eC (.int 31)) (e2 G8 (e2 a8w (a6 0) (eC (.int 13))) (eC (.int 1000)))) b9))))))))))))))) (u7 (e2 dIx (a6 1) (e2 G8 (a6 0) (eC (.int 13))))))
def m_law_else:=fnD [.i] 1 b_law_else
abbrev a4f(B:Bk P w K mg base)(k:Nat):=HB B "_law_else" k ["_law_cell"] (spD K 1 m_law_else .f)
def ok_law_else(B:Bk P w K mg base):a4f B 1:=
 n6 B.d31 λ_ _ F=>fnF F ["_law_cell","_law_some"] λsc _ _ _ _ _ _ _=>by exact b7 (g8 1 sc.nd (a9 (p9 (n:=13) (i7 (PX.itol b8) (i7 (PX.itol b8) (i7 (PX.itol (a3n)) (i7 (PX.itol (a3n)) (i7 (PX.itol (i8 a1z b8 b8)) (i7 (PX.itol (i8 a1z b8 b8)) (i7 (PX.itol V5) (i7 (PX.itol V5) (i7 (PX.itol a8z) (i7 (PX.itol b9o) (i7 (p9 (n:=1) (i7 b8 l0)) (i7 (PX.itol (a0g (n:=1) (i7 b8 l0))) (i7 (PX.itol (i8 s9 b8 (i8 u8 (i8 a8y (f8 0) b8) b8))) l0)))))))))))))))) (g7 (PSX.weak (k8 (a9 (D8 (PX.newf (e7 1)) (i8 u8 (f8 0) b8)))) (X8 1) n5))
def b_law:EvS:=(g9 (j8 1 (eCl m_law_machine (a7 (a6 0) b9))) (g9 (j8 2 (o8 (iL (a6 1)) [] pt1 tT (eI (V6 (a6 0))))) (g9 (j8 3 (eCl J8 (a7 (eCl N4 (a7 (a6 2) b9)) b9))) (g9 (sIf (tNo (tV (eCl m_law_refused (a7 (a6 2) (a7 (eCl m_law_else (a7 (eCl m_law_mixed (a7 (a6 0) (a7 (eC (.int 6)) b9))) b9)) (a7 (eC (.bool yn)) b9)))))) (u7 (eC (.bool yH))) G9) (g9 (j8 4 (eCl m_law_most (a7 (a6 0) (a7 (a6 3) (a7 (eCl J8 (a7 (e2 dIx (a6 1) (eC (.int 0))) b9)) b9))))) (g9 (j8 5 (eCl m_law_size (a7 (a6 3) (a7 (eCl J8 (a7 (e2 dIx (a6 1) (eC (.int 0))) b9)) (a7 (a6 4) b9))))) (g9 (sIf (tB (e2 dGt (a6 5) (eC (.int 3000)))) (u7 (a6Z (eCl m_law_refused (a7 (a6 2) (a7 (a6 4) (a7 (eC (.bool yH)) b9)))) (e2 dEq (a6 2) (a6 1)))) G9) (g9 (j8 6 (eCl a4e (a7 (a6 2) (a7 (a6 4) b9)))) (u7 (a6Z (e1 (λd=>cz (.bool (isList d))) (a6 6)) (a6Z (eCh dLt dLe (eC (.int 0)) (eCl J8 (a7 (a6 6) b9)) (a6 5)) (e2 dEq (a6 2) (a6 1)))))))))))))
def m_law:=fnD [.f] 6 b_law
def ok_law(B:Bk P w K mg base)(cE:L3 B 8)(iU:a0y B 8)(gv:a0S B 8)(kn:a4a B 8)(iu:a2U B 8)(k_:a9v B 8)(g_:a0E B 8)(ko:a4f B 8)(mh:a9w B 8)(F:Fun K "law" "law" (top 58) f fd):FnOk P w K mg base CX0 9 f fd ["_law_script"] (spD K 1 m_law .i):=
 fnF F ["_law_script","_law_machine_here","_law_handed","_law_states","_law_most_here","_law_size_here","_law_found"] λsc _ _ _ _ _ _ hr=>by exact b7 (g8 1 sc.nd (a9 (l5 iU hr (a8 (e7 0) f9)))) (b7 (PSX.weak (a3t 2 sc.nd rfl (tn:=["_law_row"]) (ys:=[]) (o6 (PX.newf (e7 1))) rfl (λ_ _ _ _ _=>p5 (i:=0) c2K rfl (dW rfl) (.inr rfl)) A0 (.inr rfl) a7e rfl (λ_ _ _ _ _=>x4) (λ_ _ _ _ _=>(MkL.i (a6d B.list_ (PX.newf (e7 0)))))) (X8 1) n5) (b7 (PSX.weak (g8 3 sc.nd (a9 (z9 B.len_ (l5 iu hr (a8 (e7 2) f9))))) (X8 2) n5) (b7 (K7 (a0e (w9 (l5 g_ hr (a8 (e7 2) (a8 (by exact a3P ko hr (Y4 (l5 cE hr (a8 (e7 0) (a8 b8 f9))) (a6v)) (hfl:=(l7 E4))) (a8 V5 f9)))))) (g7 (k8 (a9 V5))) z8) (b7 (g8 4 sc.nd (a9 (l5 kn hr (a8 (e7 0) (a8 (f8 3) (a8 (z9 B.len_ (D8 (PX.newf (e7 1)) b8)) f9)))))) (b7 (g8 5 sc.nd (a9 (l5 gv hr (a8 (f8 3) (a8 (z9 B.len_ (D8 (PX.newf (e7 1)) b8)) (a8 (f8 4) f9)))))) (b7 (K7 (u5 a5i (f8 5) b8) (g7 (k8 (a9 (a3m (l5 g_ hr (a8 (e7 2) (a8 (f8 4) (a8 V5 f9)))) (a3l (a1D O7 (e7 2) (e7 1))))))) z8) (b7 (g8 6 sc.nd (a9 (by exact a3P k_ hr (Y4 (PX.newf (e7 2)) (Y4 (PX.newi (f8 4)) (a6v))) (hfl:=(l7 (l7 E4)))))) (g7 (k8 (a9 (a3m (a8E b3v B.isinstance_ B.list_ PyProof.Rows.Boot.«list» (e7 6)) (a3m (b3q a9U a3k b8 (z9 B.len_ (e7 6)) (f8 5)) (a3l (a1D O7 (e7 2) (e7 1)))))))))))))))
end Prog
local macro_rules | `(tactic| walk_at "ev")=>`(tactic| simp -implicitDefEqProofs (disch:=first | omega | assumption | decide) only [VS.v_var,VS.v_c,VS.v_1,VS.v_2,VS.c3r,VS.b9R,VS.b8u,VS.c3s,VS.c3t,VS.c1O,VS.c1P,VS.c1Q,VS.v_and,VS.v_or,VS.v_not,VS.c3u,VS.b8v,VS.c1R,VS.a0w,VS.b3I,VS.b0b,VS.c3v,VS.b9S,VS.c1S,VS.b3J,VS.b9T,VS.c3n,VS.b9z,VS.c3o,VS.b6L,VS.c3p,VS.c3q,VS.b9A,VS.b9B,VS.b9C,VS.c1J,VS.c1K,VS.b9D,VS.b9E,VS.c1L,VS.c1M,VS.b9F,VS.b9G,VS.b9H,VS.b9I,VS.b9J,VS.b3G,VS.b9K,VS.b9L,VS.b9M,VS.b3H,VS.b9N,VS.c1N,VS.b6M,VS.b9O,VS.b9P,VS.b0a,VS.b9Q,VS.v_add,VS.v_sub,VS.v_lt,VS.c3w,VS.c3x,VS.c3y,VS.c1T,VS.c1U,VS.b9U,VS.b9V,VS.c1V,VS.c1W,VS.c1X,VS.c1Y,VS.c1Z,VS.c2a,VS.v_mod,VS.v_div,VS.c3N,VS.c2l,VS.c2m,VS.trB,VS.c2n,VS.c0D,VS.b4I,VS.b7C,VS.b4J,VS.b4K,VS.b7D,VS.b2n,VS.a9g,VS.a9h,VS.a9i,VS.b2o,VS.b2p,VS.a9j,VS.a9k,VS.a7P,VS.a7Q,VS.a7R,VS.a9l,VS.a9m,VS.a7S,VS.isList_list,VS.isList_int,VS.a7T,VS.isList_bool,VS.a9n,VS.isList_str,VS.isList_dict,VS.a7U,VS.isTuple_list,VS.isTuple_int,VS.a5w,VS.b0q,VS.b0r,VS.c2o,VS.c2p,VS.b2q,VS.c3W,VS.a1T,VS.c0E,VS.c0F,VS.c0G,VS.c2r,VS.c2s,VS.c3X,VS.at0,VS.at1,VS.c2y,VS.c2z,VS.c0I,VS.b7G,VS.c2A,VS.b7H,mL,eB,nH,fX,jw,gX,bG,bM,bj,ic,Bool.not_false,m_,gu,Bool.false_and,Bool.and_false,VS.c3O,VS.c3P,VS.c3Q,VS.c3R,VS.c3S,VS.c3T,VS.c3U,VS.c3V,decide_true,decide_false,aj,ay,cW])
namespace Prog
open L2 VS
def P0{ns:List Int}{j:Int}(a:0<=j)(b:j<ns.length):L2.atI (ns.map aR) j=cz (.int (ns.getD j.toNat 0)):=by
 rw[a1I a (by rw[aj];exact b),dC];rw[ah,ag (by lia)];rfl
end Prog
local macro_rules | `(tactic| walk_at "evm")=>`(tactic| first | (walk_at "ev";repeat (simp -implicitDefEqProofs (disch:=first | omega | assumption | decide) only [VS.Y0,VS.a6i];try walk_at "ev")) | (simp -implicitDefEqProofs (disch:=first | omega | assumption | decide) only [VS.Y0,VS.a6i];repeat (first | walk_at "ev" | simp -implicitDefEqProofs (disch:=first | omega | assumption | decide) only [VS.Y0,VS.a6i])))
namespace Prog
open L2 VS
def a7Y(ns:List Int)(k:Int):Int:=((if 0<ns.length then ns.getD (k % (ns.length:Int)).toNat 0 else 3) % 2147483629+7919*k+1)*48271 % 2147483647
def L6(ns:List Int)(k:Int):Int:=a7Y ns k*(a7Y ns k % 65521+k+2) % 2147483629
def c0N(ns:List Int)(k:Int):0<=a7Y ns k/\a7Y ns k<2147483647:=⟨fF _ (by decide),eM _ (by decide)⟩
def b0y(ns:List Int)(k:Int):0<=L6 ns k:=fF _ (by decide)
def atI_nums{ns:List Int}{j:Int}(a:0<=j)(b:j<ns.length):L2.atI (ns.map aR) j=cz (.int (ns.getD j.toNat 0)):=by
 rw[a1I a (by rw[aj];exact b),dC];rw[ah,ag (by lia)];rfl
def a4g(ns:List Int)(k:Int)(h0:0<=k)(h1:k<=1000):m_law_mixed [.list (ns.map .int),.int k]=cz (.int (L6 ns k)):=by
 unfold m_law_mixed;rw[B9 (by simp[VS.argsOk,imm])];unfold b_law_mixed;walk_at "evm";have hr:=c0N ns k;by_cases c:0<ns.length
 ·rw[aL (by lia:(0:Int)<ns.length)];walk_at "evm";rw[atI_nums (fF _ (by lia)) (eM _ (by lia))];walk_at "evm";have e:a7Y ns k=(ns.getD (k % (ns.length:Int)).toNat 0 % 2147483629+7919*k+1)*48271 % 2147483647:=by unfold a7Y;rw[aE c]
  rw[<-e]
  try walk_at "evm"
  rfl
 ·rw[aW (by lia:¬ (0:Int)<ns.length)];walk_at "evm";have e:a7Y ns k=(3 % 2147483629+7919*k+1)*48271 % 2147483647:=by unfold a7Y;rw[aM c]
  rw[<-e]
  try walk_at "evm"
  rfl
end Prog
namespace VS
open L2
abbrev Ky:=List (Int×Int)
def snoc_ind{P:List α->Prop}(h0:P [])(h1:∀l x,P l->P (l++[x]))(l:List α):P l:=by
 have h:∀r:List α,P r.reverse:=by
  intro r
  induction r with
  |nil=>exact h0
  |cons x r ih=>rw[kh];exact h1 _ _ ih
 have:=h l.reverse
 rwa[List.reverse_reverse]at this
def a4R(seen:List Ky)(x:Ky):List Ky:=if x∈seen then seen else seen++[x]
def ded(ks:List Ky):List Ky:=ks.foldl a4R []
def L7(ks:List Ky)(x:Ky):ded (ks++[x])=a4R (ded ks) x:=by unfold ded;rw[gF];rfl
def K4(h:x∈s):a4R s x=s:=aE h
def G7(h:x∉s):a4R s x=s++[x]:=aM h
def b5a:y∈a4R s x↔y∈s\/y=x:=by
 by_cases h:x∈s
 ·rw[K4 h];exact⟨dW,λz=>z.elim id λe=>e▸h⟩
 ·rw[G7 h];simp
def U9:y∈ded ks↔y∈ks:=by
 induction ks using snoc_ind with
 |h0=>simp[ded]
 |h1 l x ih=>rw[L7,b5a,ih];simp
def b0z(ks:List Ky):(ded ks).length<=ks.length:=by
 induction ks using snoc_ind with
 |h0=>simp[ded]
 |h1 l x ih=>
  rw[L7,az,bN];by_cases h:x∈ded l
  ·rw[K4 h];lia
  ·rw[G7 h,az,bN];lia
def b5b(h:y∈s):(a4R s x).idxOf y=s.idxOf y:=by
 by_cases c:x∈s
 ·rw[K4 c]
 ·rw[G7 c,ki,aE h]
def b7L{s:List Ky}{x y:Ky}(hx:x∈s)(h:s.idxOf x=s.idxOf y):x=y:=by
 have h1:=bZ.mpr hx;have e1:s[s.idxOf x]'h1=x:=dX h1;have h2:s.idxOf y<s.length:=by rw[<-h];exact h1
 have e2:s[s.idxOf y]'h2=y:=dX h2;rw[<-e1,<-e2]
 congr 1
def b0A(h:ks≠[]):∃x∈ks,(ded ks).idxOf x+1=(ded ks).length:=by
 induction ks using snoc_ind with
 |h0=>exact absurd rfl h
 |h1 l x ih=>
  rw[L7];by_cases c:x∈ded l
  ·have hl:l≠[]:=λe=>by subst e;simp[ded]at c
   obtain⟨y,hy,e⟩:=ih hl;exact⟨y,ao _ hy,by rw[K4 c];exact e⟩
  ·refine⟨x,by simp,?_⟩;rw[G7 c,ki,aM c,az];simp
def a2b(ks:List Ky):List Int:=ks.map λx=>(((ded ks).idxOf x:Nat):Int)
def a7Z(ks:List Ky):(a2b ks).length=ks.length:=aj ..
def b2u{α:Type}(f g:α->Ky)(ps:List α):(∀p∈ps,∀q∈ps,g p=g q->f p=f q)->(ded (ps.map f)).length<=(ded (ps.map g)).length/\((ded (ps.map g)).length<=(ded (ps.map f)).length->∀p∈ps,∀q∈ps,f p=f q->g p=g q):=by
 induction ps using snoc_ind with
 |h0=>exact λ_=>⟨aA _,λ_ p hp=>nomatch hp⟩
 |h1 l x ih=>
  intro h;obtain⟨i1,i2⟩:=ih λp hp q hq=>h p (ao _ hp) q (ao _ hq)
  rw[aQ,aQ,cw,cw,L7,L7];have hx:x∈l++[x]:=by simp
  by_cases cg:g x∈ded (l.map g)
  ·obtain⟨q,hq,eq⟩:=aJ.mp (U9.mp cg);have Cc:f q=f x:=h q (ao _ hq) x hx eq;have cf:f x∈ded (l.map f):=U9.mpr (aJ.mpr ⟨q,hq,Cc⟩);rw[K4 cg,K4 cf];refine⟨i1,λhle p hp r hr e=>?_⟩;have key:∀p∈l,f p=f x->g p=g x:=λp hp e=>(i2 hle p hp q hq (e.trans Cc.symm)).trans eq
   rcases av.mp hp with z|z<;>rcases av.mp hr with y|y
   ·exact i2 hle p z r y e
   ·cases ar.mp y;exact key p z e
   ·cases ar.mp z;exact (key r y e.symm).symm
   ·cases ar.mp z;cases ar.mp y;rfl
  ·by_cases cf:f x∈ded (l.map f)
   ·rw[K4 cf,G7 cg,az,bN];exact⟨by lia,λhle=>by lia⟩
   ·rw[G7 cf,G7 cg,az,az,bN,bN];refine⟨by lia,λhle p hp r hr e=>?_⟩;have no:∀p∈l,f p≠f x:=λp hp e=>cf (U9.mpr (aJ.mpr ⟨p,hp,e⟩))
    rcases av.mp hp with z|z<;>rcases av.mp hr with y|y
    ·exact i2 (by lia) p z r y e
    ·cases ar.mp y;exact absurd e (no p z)
    ·cases ar.mp z;exact absurd e.symm (no r y)
    ·cases ar.mp z;cases ar.mp y;rfl
def rn(r:Ky)(ls:List Int):Ky:=r.map λp=>(p.1,ls.getD p.2.toNat 0)
def a2c(r:Ky)(ls:List Int):(rn r ls).length=r.length:=aj ..
def lvl(m:j5):Nat->List Int
 |0=>m.map λ_=>0
 |d+1=>a2b (m.map λr=>rn r (lvl m d))
def kf(m:j5):Nat->Ky->Ky
 |0,_=>[]
 |d+1,r=>rn r (lvl m d)
def cls(m:j5)(d:Nat):Nat:=(ded (m.map (kf m d))).length
def lv(m:j5)(d:Nat)(s:Int):Int:=(lvl m d).getD s.toNat 0
def V0(m:j5):∀d,(lvl m d).length=m.length
 |0=>aj ..
 |d+1=>by unfold lvl;rw[a7Z,aj]
def A1(m:j5)(s:Int):lv m 0 s=0:=by
 unfold lv lvl;rw[ah,a_];cases m[s.toNat]?<;>rfl
def b0B{m:j5}{d:Nat}{s:Int}(h0:0<=s)(h1:s<m.length):lv m (d+1) s=(((ded (m.map (kf m (d+1)))).idxOf (rn (rowAt m s) (lvl m d)):Nat):Int):=by
 have h2:s.toNat<m.length:=by lia
 show (a2b (m.map λr=>rn r (lvl m d))).getD s.toNat 0=_;unfold a2b rowAt;rw[ah,a_,a_,ah,ag h2];rfl
def a6D{m:j5}{d:Nat}{s t:Int}(h0:0<=s)(h1:s<m.length)(h2:0<=t)(h3:t<m.length):lv m (d+1) s=lv m (d+1) t↔rn (rowAt m s) (lvl m d)=rn (rowAt m t) (lvl m d):=by
 rw[b0B h0 h1,b0B h2 h3];refine⟨λh=>?_,λh=>by rw[h]⟩;exact b7L (U9.mpr (aJ.mpr ⟨_,K1 h0 h1,rfl⟩)) (Int.ofNat_inj.mp h)
def c2L{r r':Ky}{ls:List Int}(hl:r.length=r'.length):rn r ls=rn r' ls↔∀a:Nat,a<r.length->(r.getD a (0,0)).1=(r'.getD a (0,0)).1/\ls.getD (r.getD a (0,0)).2.toNat 0=ls.getD (r'.getD a (0,0)).2.toNat 0:=by
 unfold rn
 constructor
 ·intro h a ha;have e:(r.map λp=>(p.1,ls.getD p.2.toNat 0))[a]?=(r'.map λp=>(p.1,ls.getD p.2.toNat 0))[a]?:=by rw[h]
  rw[a_,a_,ag ha,ag (by lia)]at e;rw[ah,ah,ag ha,ag (by lia)];simp only[qd,ou,Prod.mk.injEq]at e;exact e
 ·intro h;refine iX (by rw[aj,aj,hl]) λa h1 h2=>?_
  rw[aj]at h1 h2;have:=h a h1;rw[ah,ah,ag h1,ag h2]at this;rw[dC,dC];exact Prod.ext this.1 this.2
def N5{m:j5}{k d:Nat}(w:WF m k){s t:Int}(h0:0<=s)(h1:s<m.length)(h2:0<=t)(h3:t<m.length) :
  lv m (d+1) s=lv m (d+1) t↔∀a:Int,0<=a->a<k->(stp m s a).1=(stp m t a).1/\lv m d (stp m s a).2=lv m d (stp m t a).2:=by
 rw[a6D h0 h1 h2 h3,c2L (by rw[w.row h0 h1,w.row h2 h3]),w.row h0 h1];refine⟨λh a a0 a1=>h a.toNat (by lia),λh a ha=>?_⟩;have:=h a (by lia) (by lia);unfold stp lv at this
 rwa[bS]at this
theorem a6E{m:j5}{k:Nat}(w:WF m k):∀(d:Nat) {s t:Int},0<=s->s<m.length->0<=t->t<m.length->lv m (d+1) s=lv m (d+1) t->lv m d s=lv m d t
 |0,s,t,_,_,_,_,_=>by rw[A1,A1]
 |d+1,s,t,h0,h1,h2,h3,h=>by
  rw[N5 w h0 h1 h2 h3]at h ⊢;intro a a0 a1;have ha:=h a a0 a1;have n1:=w.nx h0 h1 a0 a1;have n2:=w.nx h2 h3 a0 a1;exact⟨ha.1,a6E w d n1.1 n1.2 n2.1 n2.2 ha.2⟩
def b5c{m:j5}{r:Ky}(h:r∈m):∃s:Int,0<=s/\s<m.length/\rowAt m s=r:=by
 obtain⟨i,hi,e⟩:=List.getElem_of_mem h;refine⟨i,by lia,by lia,?_⟩;unfold rowAt;rw[bS,ah,ag hi];exact e
def b8B{m:j5}{d:Nat}{s t:Int}(h0:0<=s)(h1:s<m.length)(h2:0<=t)(h3:t<m.length):kf m d (rowAt m s)=kf m d (rowAt m t)↔lv m d s=lv m d t:=by
 cases d with
 |zero=>rw[A1,A1];exact⟨λ_=>rfl,λ_=>rfl⟩
 |succ d=>rw[a6D h0 h1 h2 h3];rfl
def b5d{m:j5}{k:Nat}(w:WF m k)(d:Nat):cls m d<=cls m (d+1)/\(cls m (d+1)<=cls m d->∀s t:Int,0<=s->s<m.length->0<=t->t<m.length->lv m d s=lv m d t->lv m (d+1) s=lv m (d+1) t):=by
 obtain⟨c1,c2⟩:=b2u (kf m d) (kf m (d+1)) m λp hp q hq e=>by
  obtain⟨s,h0,h1,rfl⟩:=b5c hp;obtain⟨t,h2,h3,rfl⟩:=b5c hq;rw[b8B h0 h1 h2 h3]at e ⊢;exact a6E w d h0 h1 h2 h3 e
 refine⟨c1,λhc s t h0 h1 h2 h3 e=>?_⟩;rw[<-b8B h0 h1 h2 h3]at e ⊢;exact c2 hc _ (K1 h0 h1) _ (K1 h2 h3) e
def b0C(m:j5)(d:Nat):cls m d<=m.length:=by
 have:=b0z (m.map (kf m d));rw[aj]at this;exact this
def a1t(w:WF m k)(d:Nat):1<=cls m d:=by
 have hm:m≠[]:=λe=>by have:=w.pos;rw[e]at this;exact absurd this (by decide)
 obtain⟨x,_,e⟩:=b0A (ks:=m.map (kf m d)) (λe=>hm (yo.mp e));unfold cls;lia
def fp:Ky->Ky->Nat
 |x::xs,y::ys=>if x=y then fp xs ys+1 else 0
 |_,_=>0
theorem a6F:∀{r r':Ky},r.length=r'.length->r≠r'->fp r r'<r.length/\r.getD (fp r r') (0,0)≠r'.getD (fp r r') (0,0)/\∀i<fp r r',r.getD i (0,0)=r'.getD i (0,0)
 |[],[],_,h=>absurd rfl h
 |[],_::_,h,_=>by simp at h
 |_::_,[],h,_=>by simp at h
 |x::xs,y::ys,hl,h=>by
  by_cases c:x=y
  ·subst c;have ih:=a6F (r:=xs) (r':=ys) (by simpa using hl) (λe=>h (by rw[e]));have e:fp (x::xs) (x::ys)=fp xs ys+1:=aE rfl;rw[e];refine⟨by rw[aY];lia,?_,λi hi=>?_⟩
   ·rw[eB,eB];exact ih.2.1
   ·cases i with
    |zero=>rfl
    |succ i=>rw[eB,eB];exact ih.2.2 i (by lia)
  ·have e:fp (x::xs) (y::ys)=0:=aM c;rw[e];exact⟨by rw[aY];lia,by rw[mL,mL];exact c,λi hi=>absurd hi (by lia)⟩
def fa(m:j5)(d:Nat)(s t:Int):Int:=(fp (rn (rowAt m s) (lvl m d)) (rn (rowAt m t) (lvl m d)):Nat)
def a6G{r:Ky}(h:i<r.length):(rn r ls).getD i (0,0)=((r.getD i (0,0)).1,ls.getD (r.getD i (0,0)).2.toNat 0):=by
 unfold rn;rw[ah,a_,ag h,ah,ag h];rfl
def b0D{m:j5}{k d:Nat}(w:WF m k){s t:Int}(h0:0<=s)(h1:s<m.length)(h2:0<=t)(h3:t<m.length)(h:lv m (d+1) s≠lv m (d+1) t) :
  (0<=fa m d s t/\fa m d s t<k)/\((stp m s (fa m d s t)).1≠(stp m t (fa m d s t)).1\/lv m d (stp m s (fa m d s t)).2≠lv m d (stp m t (fa m d s t)).2)/\
  ∀a:Int,0<=a->a<fa m d s t->(stp m s a).1=(stp m t a).1/\lv m d (stp m s a).2=lv m d (stp m t a).2:=by
 have l1:=w.row h0 h1;have l2:=w.row h2 h3;rw[ne_eq,a6D h0 h1 h2 h3]at h;obtain⟨f1,f2,f3⟩:=a6F (r:=rn (rowAt m s) (lvl m d)) (r':=rn (rowAt m t) (lvl m d)) (by rw[a2c,a2c,l1,l2]) h;rw[a2c,l1]at f1;refine⟨⟨by unfold fa;lia,by unfold fa;lia⟩,?_,λa a0 a1=>?_⟩
 ·rw[a6G (by lia),a6G (by lia)]at f2;unfold stp lv fa;rw[bS];by_cases c:((rowAt m s).getD (fp (rn (rowAt m s) (lvl m d)) (rn (rowAt m t) (lvl m d))) (0,0)).1=((rowAt m t).getD (fp (rn (rowAt m s) (lvl m d)) (rn (rowAt m t) (lvl m d))) (0,0)).1
  ·exact .inr λe=>f2 (Prod.ext c e)
  ·exact .inl c
 ·unfold fa at a1;have:=f3 a.toNat (by lia);rw[a6G (by lia),a6G (by lia)]at this;unfold stp lv;have e1:=dH Prod.fst this;have e2:=dH Prod.snd this;exact⟨e1,e2⟩
def fu(m:j5):Nat->Int->Int->List Int
 |0,_,_=>[]
 |d+1,s,t=>fa m d s t::fu m d (stp m s (fa m d s t)).2 (stp m t (fa m d s t)).2
theorem b5e(m:j5):∀(d:Nat) (s t:Int),(fu m d s t).length=d
 |0,_,_=>rfl
 |d+1,s,t=>by show (fu m d _ _).length+1=_;rw[b5e m d]
theorem a4h(hp:∀d,p (d+1)=yn->p d=yn):∀N:Nat,∃c,(aB N).countP p=c/\c<=N/\(∀d<c,p d=yn)/\∀d,c<=d->d<N->p d=yH
 |0=>⟨0,rfl,aA _,λd h=>absurd h (by lia),λd _ h=>absurd h (by lia)⟩
 |N+1=>by
  obtain⟨c,e,hc,h1,h2⟩:=a4h hp N;rw[jo,List.countP_append,e];by_cases cN:p N=yn
  ·have ED:c=N:=by
    rcases dD c N with z|z
    ·have down:∀j i,i+j=N->p i=yn:=by
      intro j
      induction j with
      |zero=>intro i e;rw[show i=N by lia];exact cN
      |succ j ih=>intro i e;exact hp i (ih (i+1) (by lia))
     have:=h2 c (aA _) z;rw[down (N-c) c (by lia)]at this;cases this
    ·lia
   subst ED;refine⟨c+1,by simp[cN],aA _,λd hd=>?_,λd hd ke=>absurd ke (by lia)⟩;rcases dD d c with z|z
   ·exact h1 d z
   ·rw[show d=c by lia];exact cN
  ·refine⟨c,by simp[cN],by lia,h1,λd hd ke=>?_⟩;rcases dD d N with z|z
   ·exact h2 d hd z
   ·rw[show d=N by lia];simpa using cN
def c0O:b0c [.dict kvs]=cz (.int kvs.length):=rfl
def a6H{Z ds:List D}(h:a Z=cz (.list ds))(hi:g6 ds=yn):X4 a Z=cz (.tuple ds):=by
 unfold X4;rw[h];exact b3K (by simp only[imm];exact hi)
def c0P{Z:List D}(hk:fk Z=cz k)(he:fe Z=cz e)(hd:Z.getD i .none=.dict kvs)(hK:q8 kt k=yn)(hl:kvs.length<1000000)(hs:scal e=yn)(hj:Z.getD j .none=.list ds)(gZ:i≠j)(rK:ds.length<1000000) :
  a7r j (V8 i kt fk fe) Z=cz (.nx ((Z.set i (.dict (E5 kvs k e))).set j (.list (ds++[(v5 kvs k).getD e])))):=by
 have hx:V8 i kt fk fe Z=cz ((v5 kvs k).getD e,Z.set i (.dict (E5 kvs k e))):=by
  unfold V8;rw[hk];show (fe Z).bind _=_;rw[he];show (match Z.getD i .none with|.dict kvs=>_|_=>_)=_;rw[hd];show (if _ then _ else _)=_;rw[aE (by rw[hK,aL hl,hs];rfl)]
 have wy:(Z.set i (.dict (E5 kvs k e))).getD j .none=.list ds:=by
  rw[<-hj,ah,ah,bF gZ]
 unfold a7r;rw[hx];show (match (Z.set i (.dict (E5 kvs k e))).getD j .none with|.list ds=>_|_=>_)=_;rw[wy];show (if _ then _ else _)=_;rw[aE rK]
theorem a0r{I:Nat->List D->Prop}{Q:List D->Prop}(B:Nat)(step:∀j Z,I j Z->j<=B/\((c Z=cz yH/\Q Z)\/(c Z=cz yn/\∃Z',g Z=cz (.nx Z')/\I (j+1) Z'))):∀n j Z,I j Z->B<n+j->∃Z',whL c g n Z=cz (.nx Z')/\Q Z'
 |0,j,Z,h,hn=>absurd (step j Z h).1 (by lia)
 |n+1,j,Z,h,hn=>by
  rcases (step j Z h).2 with⟨e,q⟩|⟨e,Z',e2,h2⟩
  ·refine⟨Z,?_,q⟩;show (c Z).bind _=_;rw[e];rfl
  ·obtain⟨Z2,e3,q⟩:=a0r B step n (j+1) Z' h2 (by lia);refine⟨Z2,?_,q⟩;show (c Z).bind _=_;rw[e];show (g Z).bind _=_;rw[e2];exact e3
def c0Q{Z:List D}:sWh (λ_=>n) c g Z=whL c g n Z:=rfl
def c4i{Z ds:List D}(h:a Z=cz (.list ds)):iRv a Z=cz ds.reverse:=by
 unfold iRv;rw[h];rfl
def b5f(p q:Int×Int):aI (stD p) (stD q)=decide (p=q):=by
 unfold stD;simp only[aI,bT,a2T];rcases p with⟨a,b⟩
 rcases q with⟨c,d⟩
 by_cases h1:a=c<;>by_cases h2:b=d<;>simp[h1,h2]
theorem b0E:∀xs ys:Ky,bT (xs.map stD) (ys.map stD)=decide (xs=ys)
 |[],[]=>by simp[bT]
 |[],_::_=>by simp[bT]
 |_::_,[]=>by simp[bT]
 |x::xs,y::ys=>by
  simp only[ay,bT,b5f,b0E xs ys,gk];by_cases h1:x=y<;>by_cases h2:xs=ys<;>simp[h1,h2]
def c0R:dEq (stD p) (stD q)=cz (.bool (decide (p=q))):=by
 rw[b4N (a9p p) (a9p q) (cR (a3Z p) (by decide)),b5f]
def T4(x:Ky):D:=.tuple (x.map stD)
def a8a(x y:Ky):aI (T4 x) (T4 y)=decide (x=y):=by
 unfold T4;simp only[aI];exact b0E x y
theorem a4i:∀x:Ky,o7 (x.map stD)=yn
 |[]=>rfl
 |p::x=>by
  show (C5 (stD p)&&o7 (x.map stD))=yn;rw[a4i x];rfl
def b2v(x:Ky):q8 yn (T4 x)=yn:=by
 have h1:C5 (T4 x)=yn:=a4i x;have h2:(T4 x).depth<=7:=by
  unfold T4;simp only[eL];have:=N9 stD 1 a3Z x;lia
 unfold q8;rw[h1,aL h2];rfl
def dz:List Ky->Nat->List (D×D)
 |[],_=>[]
 |x::xs,i=>(T4 x,.int i)::dz xs (i+1)
theorem a9x:∀(s:List Ky) (i:Nat),(dz s i).length=s.length
 |[],_=>rfl
 |x::s,i=>by show (dz s (i+1)).length+1=_;rw[a9x s];rfl
theorem b0F:∀(s:List Ky) (x:Ky) (i:Nat),dz (s++[x]) i=dz s i++[(T4 x,.int ((i+s.length:Nat):Int))]
 |[],x,i=>rfl
 |y::s,x,i=>by
  show (T4 y,aR i)::dz (s++[x]) (i+1)=_;rw[b0F s x (i+1)];show _=(T4 y,aR i)::(dz s (i+1)++_);rw[aY,gr,jE 1]
theorem b0G:∀(s:List Ky) (x:Ky) (i:Nat),N0 (dz s i) (T4 x)=decide (x∈s)
 |[],x,i=>by simp[N0,dz]
 |y::s,x,i=>by
  have ih:=b0G s x (i+1);unfold N0 at ih ⊢;show (aI (T4 y) (T4 x)||(dz s (i+1)).any _)=_;rw[ih,a8a];by_cases h:y=x
  ·simp[h]
  ·have:¬ x=y:=λe=>h e.symm
   simp[h,this]
theorem b0H:∀(s:List Ky) (x:Ky) (i:Nat),v5 (dz s i) (T4 x)=if x∈s then cz (.int ((i+s.idxOf x:Nat):Int)) else xn
 |[],x,i=>by simp[v5,dz]
 |y::s,x,i=>by
  have ih:=b0H s x (i+1);unfold v5 at ih ⊢;show (List.find? _ ((T4 y,aR i)::dz s (i+1))).map _=_;rw[jt,a8a];by_cases h:y=x
  ·subst h;simp
  ·have h':¬ x=y:=λe=>h e.symm
   rw[aW h];show AI _ (List.find? _ (dz s (i+1)))=_;rw[ih];have e:(y::s).idxOf x=s.idxOf x+1:=by
    rw[List.idxOf_cons,beq_false_of_ne h];rfl
   rw[e,gr,jE 1];by_cases c:x∈s
   ·rw[aE c,aE (ax _ c)]
   ·rw[aM c,aM (by simp[h',c])]
def b7M(s:List Ky)(x:Ky):E5 (dz s 0) (T4 x) (.int (s.length:Nat))=dz (a4R s x) 0:=by
 unfold E5;rw[b0G];by_cases c:x∈s
 ·rw[aL c,aE rfl,K4 c]
 ·rw[aW c,aM (by decide),G7 c,b0F,iA]
def b7N(s:List Ky)(x:Ky):(v5 (dz s 0) (T4 x)).getD (.int (s.length:Nat))=.int (((a4R s x).idxOf x:Nat):Int):=by
 rw[b0H];by_cases c:x∈s
 ·rw[aE c,K4 c,iA];rfl
 ·rw[aM c,G7 c,ki,aM c];simp
theorem a2d:∀(r:List Int) (i:Int),S6 i r∈i::r/\∀x∈i::r,x<=S6 i r
 |[],i=>⟨by simp[S6],λx hx=>by simp at hx;rw[hx];exact xw _⟩
 |y::r,i=>by
  have e:S6 i (y::r)=S6 (if y>i then y else i) r:=rfl;rw[e];by_cases c:y>i
  ·rw[aE c];obtain⟨h1,h2⟩:=a2d r y;refine⟨ax _ h1,λx hx=>?_⟩;rcases aG.mp hx with z|z
   ·have:=h2 y (by simp);lia
   ·exact h2 x z
  ·rw[aM c];obtain⟨h1,h2⟩:=a2d r i;refine⟨?_,λx hx=>?_⟩
   ·rcases aG.mp h1 with z|z
    ·rw[z];simp
    ·exact ax _ (ax _ z)
   ·rcases aG.mp hx with z|z
    ·rw[z];exact h2 i (by simp)
    ·rcases aG.mp z with y'|y'
     ·have:=h2 i (by simp);lia
     ·exact h2 x (ax _ y')
def b5g{ns:List Int}(h1:n∈ns)(h2:∀x∈ns,x<=n):a0x [.list (ns.map .int)]=cz (.int n):=by
 show (intsOf (ns.map aR)).bind _=_;rw[a0M];cases ns with
 |nil=>cases h1
 |cons i r=>
  obtain⟨g1,g2⟩:=a2d r i;have a:=h2 _ g1;have b:=g2 _ h1;show cz (aR (S6 i r))=_;rw[show S6 i r=n by lia]
def b7O(h:ks≠[]):a0x [.list ((a2b ks).map .int)]=cz (.int ((ded ks).length-1)):=by
 obtain⟨x,hx,e⟩:=b0A h;refine b5g ?_ λy hy=>?_
 ·exact aJ.mpr ⟨x,hx,by lia⟩
 ·obtain⟨z,hz,rfl⟩:=aJ.mp hy;have:=bZ.mpr (U9.mpr hz);lia
def b0I(w:WF m k):∀d,a0x [.list ((lvl m d).map .int)]=cz (.int (cls m d-1))
 |0=>by
  have hm:m≠[]:=λe=>by have:=w.pos;rw[e]at this;exact absurd this (by decide)
  have hc:cls m 0=1:=by
   have h1:=a1t w 0;unfold cls at h1 ⊢;have:∀l:j5,(ded (l.map (kf m 0))).length<=1:=by
    intro l
    induction l using snoc_ind with
    |h0=>simp[ded]
    |h1 l x ih=>
     rw[aQ,cw,L7];by_cases c:kf m 0 x∈ded (l.map (kf m 0))
     ·rw[K4 c];exact ih
     ·have:l=[]:=by
       cases l with
       |nil=>rfl
       |cons y l=>exact absurd (U9.mpr (aJ.mpr ⟨y,by simp,rfl⟩)) c
      subst this;simp[a4R,ded]
   have:=this m;lia
  rw[hc];refine b5g ?_ λy hy=>?_
  ·cases m with
   |nil=>exact absurd rfl hm
   |cons r m=>exact aJ.mpr ⟨r,by simp,rfl⟩
  ·obtain⟨z,_,rfl⟩:=aJ.mp hy
   decide
 |d+1=>by
  have hm:m≠[]:=λe=>by have:=w.pos;rw[e]at this;exact absurd this (by decide)
  exact b7O (ks:=m.map λr=>rn r (lvl m d)) λe=>hm (yo.mp e)
def v_count{bs:List Bool}:a3z (.list (bs.map .bool)) (.bool yn)=cz (.int (bs.countP id)):=by
 have h1:bh (bs.map cK)=yn:=a1n _ (λx=>by simp only[dm]) bs;show (if (bh (bs.map cK)&&(cK yn).canLay0&&decide ((cK yn).depth<=450))=yn then cz (aR ((bs.map cK).countP λd=>aI d (.bool yn))) else xn)=_;rw[h1,aE (by simp[dm,eL])];rw[GW]
 congr 3
 congr 1
 funext b
 cases b<;>rfl
def b5h{ns:List Int}:lIs (cz (.list (ns.map .int)))=cz (.list (ns.map .int)):=b0q (m7 _ (λ_=>U3) ns)
theorem a5E(f:α->D):∀{xs:List α},(∀x∈xs,∃bs,pt (enc x)=cz bs/\g (bs++cs)=cz (f x))->V7 pt tT g cs (xs.map enc)=cz (xs.map f)
 |[],_=>rfl
 |x::xs,h=>by
  obtain⟨bs,h1,h2⟩:=h x aN;have ih:=a5E f (xs:=xs) λe he=>h e (ax _ he)
  show (pt (enc x)).bind _=_;rw[h1];show (g (bs++cs)).bind _=_;rw[h2];show (V7 pt tT g cs (xs.map enc)).bind _=_;rw[ih];rfl
def P6{js:List Nat}{Z:List D}{xs:List α}(f:α->D)(hf:fi Z=cz (xs.map enc))(hl:xs.length<=1000000)(h:∀x∈xs,∃bs,pt (enc x)=cz bs/\g (bs++js.map λj=>Z.getD j .none)=cz (f x)) :
  o8 fi js pt tT g Z=cz (.list (xs.map f)):=by
 unfold o8;rw[hf];show (if (xs.map enc).length<=1000000 then _ else xn)=_;rw[aE (by rw[aj];exact hl),a5E f h];rfl
theorem a2E:∀(ls:List Int) (k:Nat),J9 (ls.map .int) k=(aB ls.length).map λ(s:Nat)=>dw [.int ((k+s:Nat):Int),.int (ls.getD s 0)]
 |[],_=>rfl
 |n::ls,k=>by
  show dw [.int k,.int n]::J9 (ls.map .int) (k+1)=_;rw[a2E ls (k+1),aY,uH,ay,bD]
  congr 1;refine bK λs _=>?_
  show dw [.int ((k+1+s:Nat):Int),.int (ls.getD s 0)]=.tuple [.int ((k+(s+1):Nat):Int),.int ((n::ls).getD (s+1) 0)];rw[eB,gr,jE 1]
def c0S{Z ds:List D}(h:a Z=cz (.list ds)):iEn a Z=cz (J9 ds 0):=by
 unfold iEn;rw[h];rfl
def c2M{Z:List D}(hk:fk Z=cz k)(he:fe Z=cz e)(hd:Z.getD i .none=.dict kvs)(hK:q8 kt k=yn)(hl:kvs.length<1000000)(hs:scal e=yn) :
  b3S (V8 i kt fk fe) Z=cz (.nx (Z.set i (.dict (E5 kvs k e)))):=by
 have hx:V8 i kt fk fe Z=cz ((v5 kvs k).getD e,Z.set i (.dict (E5 kvs k e))):=by
  unfold V8;rw[hk];show (fe Z).bind _=_;rw[he];show (match Z.getD i .none with|.dict kvs=>_|_=>_)=_;rw[hd];show (if _ then _ else _)=_;rw[aE (by rw[hK,aL hl,hs];rfl)]
 unfold b3S;rw[hx];rfl
section
variable {β α:Type}[DecidableEq β]
def dd1(W:List (β×α))(c:β×α):List (β×α):=if c.1∈W.map (·.1) then W else W++[c]
def dd(W C:List (β×α)):List (β×α):=C.foldl dd1 W
variable {W C C':List (β×α)}{c:β×α}{t:β}
def Q7(h:c.1∈W.map (·.1)):dd1 W c=W:=aE h
def K5(h:c.1∉W.map (·.1)):dd1 W c=W++[c]:=aM h
def b5i:dd W (C++C')=dd (dd W C) C':=by unfold dd;rw[gF]
def P7:dd W (C++[c])=dd1 (dd W C) c:=by rw[b5i];rfl
def a4j(W C:List (β×α)):∃E,dd W C=W++E:=by
 induction C using snoc_ind with
 |h0=>exact⟨[],(bj _).symm⟩
 |h1 C c ih=>
  obtain⟨E,e⟩:=ih;rw[P7];by_cases h:c.1∈(dd W C).map (·.1)
  ·rw[Q7 h];exact⟨E,e⟩
  ·rw[K5 h,e];exact⟨E++[c],aV ..⟩
def a4k(h:(W.map (·.1)).Nodup)(C:List (β×α)):((dd W C).map (·.1)).Nodup:=by
 induction C using snoc_ind with
 |h0=>exact h
 |h1 C c ih=>
  rw[P7];by_cases h:c.1∈(dd W C).map (·.1)
  ·rw[Q7 h];exact ih
  ·rw[K5 h,aQ,bR];refine⟨ih,by simp,λx hx y hy e=>h ?_⟩;rw[cw,ar]at hy;rw[<-hy,<-e];exact hx
def Z6(W C:List (β×α)):(dd W C).Sublist (W++C):=by
 induction C using snoc_ind with
 |h0=>rw[bj];exact iC _
 |h1 C c ih=>
  rw[P7,<-aV];by_cases h:c.1∈(dd W C).map (·.1)
  ·rw[Q7 h];exact ih.trans (kz _ _)
  ·rw[K5 h];exact ih.append (iC _)
def a9y(W C:List (β×α)):(dd W C).length<=W.length+C.length:=by
 have:=(Z6 W C).length_le
 rwa[az]at this
def b5j{R:α->α->Prop}(hR:(W++C).Pairwise λa b=>R a.2 b.2):∀e∈W++C,∃v,(e.1,v)∈dd W C/\(v=e.2\/R v e.2):=by
 induction C using snoc_ind with
 |h0=>
  intro e he;rw[bj]at he;exact⟨e.2,he,.inl rfl⟩
 |h1 C c ih=>
  intro e he;rw[<-aV]at hR he;obtain⟨h1,h2,h3⟩:=dI.mp hR;rw[P7];rcases av.mp he with z|z
  ·obtain⟨v,hv,r⟩:=ih h1 e z;refine⟨v,?_,r⟩;by_cases h:c.1∈(dd W C).map (·.1)
   ·rw[Q7 h];exact hv
   ·rw[K5 h];exact ao _ hv
  ·rw[ar.mp z];by_cases h:c.1∈(dd W C).map (·.1)
   ·rw[Q7 h];obtain⟨x,hx,ex⟩:=aJ.mp h;refine⟨x.2,by rw[<-ex];exact hx,.inr (h3 x ((Z6 W C).subset hx) c (by simp))⟩
   ·rw[K5 h];exact⟨c.2,by simp,.inl rfl⟩
end
def nodup_range{n:Nat}:∀{l:List Int},l.Nodup->(∀x∈l,0<=x/\x<(n:Int))->l.length<=n:=by
 induction n with
 |zero=>
  intro l _ h;cases l with
  |nil=>exact aA _
  |cons x l=>have:=h x (by simp);lia
 |succ n ih=>
  intro l hd h;have h1:=ih (l:=l.erase (n:Int)) (hd.erase _) λx hx=>by
   have h2:=(List.Nodup.mem_erase_iff hd).mp hx;have:=h x h2.2;have:=h2.1;lia
  have h2:=List.length_erase (a:=(n:Int)) (l:=l);by_cases c:(n:Int)∈l
  ·rw[aE c]at h2;lia
  ·rw[aM c]at h2;lia
def wl:List Int->List Int->Prop
 |a::p,b::q=>a<b\/(a=b/\wl p q)
 |_,_=>False
def bf(p q:List Int):Prop:=p.length<q.length\/(p.length=q.length/\wl p q)
theorem b5k:∀{p q:List Int} (x y:List Int),wl p q->wl (p++x) (q++y)
 |[],_,_,_,h=>h.elim
 |_::_,[],_,_,h=>h.elim
 |a::p,b::q,x,y,h=>by
  rcases h with h|⟨e,h⟩
  ·exact .inl h
  ·exact .inr ⟨e,b5k x y h⟩
theorem b0J:∀(p:List Int) {x y:List Int},wl x y->wl (p++x) (p++y)
 |[],_,_,h=>h
 |a::p,_,_,h=>.inr ⟨rfl,b0J p h⟩
def b0K(a b:Int)(h:bf p q):bf (p++[a]) (q++[b]):=by
 rcases h with h|⟨e,h⟩
 ·exact .inl (by simp;lia)
 ·exact .inr ⟨by simp[e],b5k _ _ h⟩
def b5l(h:a<b):bf (p++[a]) (p++[b]):=.inr ⟨by simp,b0J p (.inl h)⟩
abbrev a0X:=List (Int×List Int)
def a4S(m:j5)(k:Nat)(e:Int×List Int):a0X:=(aB k).map λ(a:Nat)=>((stp m e.1 a).2,e.2++[(a:Int)])
abbrev W0:a0X:=[(0,[])]
abbrev Sor(W:a0X):Prop:=W.Pairwise λa b=>bf a.2 b.2
def b5m(m:j5)(k:Nat)(e:Int×List Int):Sor (a4S m k e):=by
 unfold Sor a4S;rw[Cs];exact uI.imp λh=>b5l (by lia)
def b2w(m:j5)(k:Nat){V:a0X}(h:Sor V):Sor (V.flatMap (a4S m k)):=by
 induction V with
 |nil=>exact kl
 |cons e V ih=>
  obtain⟨h1,h2⟩:=ik.mp h;rw[fL];refine dI.mpr ⟨b5m m k e,ih h2,λx hx y hy=>?_⟩;obtain⟨f,hf,hy⟩:=cO.mp hy;obtain⟨a,_,rfl⟩:=aJ.mp hx;obtain⟨b,_,rfl⟩:=aJ.mp hy;exact b0K _ _ (h1 f hf)
def b2x(m:j5)(k:Nat){V:a0X}(h:Sor V):Sor (W0++V.flatMap (a4S m k)):=by
 refine dI.mpr ⟨dF ..,b2w m k h,λx hx y hy=>?_⟩;rw[ar.mp hx];obtain⟨f,hf,hy⟩:=cO.mp hy;obtain⟨b,_,rfl⟩:=aJ.mp hy;exact .inl (by simp)
structure Met (m:j5) (k:Nat) (dn W:a0X):Prop where
 eq:W=dd W0 (dn.flatMap (a4S m k))
 pre:∃nw,W=dn++nw
 sor:Sor W
 ql:∀e∈W,e.2.length<=dn.length
structure AllMet (m:j5) (k:Nat) (W:a0X):Prop where
 eq:W=dd W0 (W.flatMap (a4S m k))
 sor:Sor W
 range:∀e∈W,0<=e.1/\e.1<(m.length:Int)
 ql:∀e∈W,e.2.length<=W.length
section
variable {m:j5}{k:Nat}{W:a0X}
def AllMet.nodup(h:AllMet m k W):(W.map (·.1)).Nodup:=by rw[h.eq];exact a4k (by simp) _
def AllMet.len(h:AllMet m k W):W.length<=m.length:=by
 have:=nodup_range h.nodup λx hx=>by
  obtain⟨e,he,rfl⟩:=aJ.mp hx;exact h.range e he
 rwa[aj]at this
def AllMet.zero(h:AllMet m k W):(0,[])∈W:=by
 obtain⟨E,hE⟩:=a4j W0 (W.flatMap (a4S m k));rw[h.eq,hE];exact aN
def AllMet.next(h:AllMet m k W){s:Int}{p:List Int}(hs:(s,p)∈W){a:Nat}(ha:a<k):∃q,((stp m s a).2,q)∈W/\(q=p++[(a:Int)]\/bf q (p++[(a:Int)])):=by
 have h1:=b5j (R:=bf) (b2x m k h.sor) ((stp m s a).2,p++[(a:Int)]) (ai _ (cO.mpr ⟨_,hs,aJ.mpr ⟨a,bO.mpr ha,rfl⟩⟩));rw[<-h.eq]at h1;exact h1
def AllMet.leads(h:AllMet m k W):∀(n:Nat) {s:Int} {p:List Int},p.length<=n->(s,p)∈W->(m5 m 0 p).2=s/\∀a∈p,0<=a/\a<(k:Int):=by
 intro n
 induction n with
 |zero=>
  intro s p hn hs;have hp:p=[]:=ir.mp (by lia);subst hp;rw[h.eq]at hs;rcases av.mp ((Z6 _ _).subset hs) with z|z
  ·have:=ar.mp z;cases this
   exact⟨rfl,λa ha=>nomatch ha⟩
  ·obtain⟨e,_,hc⟩:=cO.mp z;obtain⟨a,_,e2⟩:=aJ.mp hc;have:=dH Prod.snd e2;simp at this
 |succ n ih=>
  intro s p hn hs;rw[h.eq]at hs;rcases av.mp ((Z6 _ _).subset hs) with z|z
  ·have:=ar.mp z;cases this
   exact⟨rfl,λa ha=>nomatch ha⟩
  ·obtain⟨⟨t,q⟩,ht,hc⟩:=cO.mp z;obtain⟨a,ha,e2⟩:=aJ.mp hc;cases e2
   obtain⟨i1,i2⟩:=ih (s:=t) (p:=q) (by simp at hn;lia) ht;refine⟨by rw[a0R,i1],λb hb=>?_⟩;rcases av.mp hb with z|z
   ·exact i2 b z
   ·rw[ar.mp z];have:=bO.mp ha;lia
end
section
variable {α:Type}
def kvD(enc:α->D)(W:List (Int×α)):List (D×D):=W.map λe=>(aR e.1,enc e.2)
variable {enc:α->D}{W:List (Int×α)}{t:Int}{x:α}
def b0L:(kvD enc W).length=W.length:=aj ..
def b0M{V:List (Int×α)}:kvD enc (W++V)=kvD enc W++kvD enc V:=aQ ..
def a6I:N0 (kvD enc W) (.int t)=decide (t∈W.map (·.1)):=by
 induction W with
 |nil=>rfl
 |cons e W ih=>
  show (aI (.int e.1) (.int t)||N0 (kvD enc W) (.int t))=_;rw[a2T,ih];by_cases h1:e.1=t
  ·simp[h1]
  ·have h2:t≠e.1:=λz=>h1 z.symm
   simp[h1,h2]
def b0N(hn:(W.map (·.1)).Nodup)(h:(t,x)∈W):v5 (kvD enc W) (.int t)=cz (enc x):=by
 induction W with
 |nil=>cases h
 |cons e W ih=>
  rw[ay,bY]at hn;unfold v5 kvD;rw[ay,jt];show AI _ (match aI (.int e.1) (.int t) with|true=>_|false=>_)=_;rw[a2T];rcases aG.mp h with z|z
  ·rw[<-z,aL rfl];rfl
  ·have h1:e.1≠t:=λq=>hn.1 (by rw[q];exact aJ.mpr ⟨_,z,rfl⟩)
   rw[aW h1];exact ih hn.2 z
def a9z(h:t∉W.map (·.1)):v5 (kvD enc W) (.int t)=xn:=by
 refine a0j ?_;rw[a6I,aW h]
def b5n(h:t∉W.map (·.1)):M8 (kvD enc W) (.int t) (enc x)=kvD enc (W++[(t,x)]):=by
 unfold M8;rw[a6I,aW h,b0M];rfl
def b7P:E5 (kvD enc W) (.int t) (enc x)=kvD enc (dd1 W (t,x)):=by
 unfold E5;rw[a6I];by_cases h:t∈W.map (·.1)
 ·rw[aL h,Q7 (c:=(t,x)) h];rfl
 ·rw[aW h,K5 (c:=(t,x)) h,b0M];rfl
def dKey_i{t:Int}:q8 yH (.int t)=yn:=rfl
def b0O:(kvD enc W).all (λp=>q8 yH p.1)=yn:=by
 unfold kvD;rw[List.all_map,dN];exact λe _=>dKey_i
def c0T:(kvD enc W).map (·.1)=(W.map (·.1)).map aR:=by unfold kvD;rw[bD,bD];rfl
def b5o:(kvD enc W).map (·.2)=(W.map (·.2)).map enc:=by unfold kvD;rw[bD,bD];rfl
def b7Q(hn:(W.map (·.1)).Nodup)(h:(t,x)∈W):a3y yH (.dict (kvD enc W)) (.int t)=cz (enc x):=by
 show (if q8 yH (.int t) then cz ((v5 (kvD enc W) (.int t)).getD .none) else xn)=_;rw[dKey_i,b0N hn h];rfl
def a9A(h:t∉W.map (·.1)):a3y yH (.dict (kvD enc W)) (.int t)=cz .none:=by
 show (if q8 yH (.int t) then cz ((v5 (kvD enc W) (.int t)).getD .none) else xn)=_;rw[dKey_i,a9z h];rfl
end
def a9B{Z:List D}(hv:fv Z=cz d)(hk:fk Z=cz k)(hd:Z.getD i .none=.dict kvs)(hK:q8 kt k=yn)(hl:kvs.length<1000000) :
  J0 i kt fk fv Z=cz (.nx (Z.set i (.dict (M8 kvs k d)))):=by
 unfold J0;rw[hv];show (fk Z).bind _=_;rw[hk];show (match Z.getD i .none with|.dict kvs=>_|_=>_)=_;rw[hd];show (if _ then _ else _)=_;rw[aE (by rw[hK,aL hl];rfl)]
def c4j{Z:List D}(hk:fk Z=cz k)(hv:fv Z=cz d)(hK:q8 kt k=yn):eD1 kt fk fv Z=cz (.dict [(k,d)]):=by
 unfold eD1;rw[hk];show (fv Z).bind _=_;rw[hv];show (if _ then _ else _)=_;rw[hK];rfl
def b7R{α:Type}{enc:α->D}{W:List (Int×α)}{Z:List D}(h:a Z=cz (.dict (kvD enc W))):a6o a Z=cz (.list ((W.map (·.1)).map .int)):=by
 unfold a6o;rw[h];show (if _ then _ else _)=_;rw[aE b0O,c0T]
def b7S{Z:List D}(h:a Z=cz (.dict (kvD aR W))):a6p a Z=cz (.list ((W.map (·.2)).map .int)):=by
 unfold a6p;rw[h];show (if _ then _ else _)=_;rw[aE (by rw[b0O,b5o,m7 _ (λ_=>U3)];rfl),b5o]
section
variable {β:Type}[DecidableEq β]
abbrev P8(β:Type):=List (β×List Int)
def P1(nx:β->Nat->β)(k:Nat)(e:β×List Int):P8 β:=(aB k).map λ(a:Nat)=>(nx e.1 a,e.2++[(a:Int)])
abbrev WB(s:β):P8 β:=[(s,[])]
abbrev a6J(W:P8 β):Prop:=W.Pairwise λa b=>bf a.2 b.2
variable {nx:β->Nat->β}{k:Nat}{s:β}
def b2y(e:β×List Int):a6J (P1 nx k e):=by
 unfold a6J P1;rw[Cs];exact uI.imp λh=>b5l (by lia)
def a9C{V:P8 β}(h:a6J V):a6J (V.flatMap (P1 nx k)):=by
 induction V with
 |nil=>exact kl
 |cons e V ih=>
  obtain⟨h1,h2⟩:=ik.mp h;rw[fL];refine dI.mpr ⟨b2y e,ih h2,λx hx y hy=>?_⟩;obtain⟨f,hf,hy⟩:=cO.mp hy;obtain⟨a,_,rfl⟩:=aJ.mp hx;obtain⟨b,_,rfl⟩:=aJ.mp hy;exact b0K _ _ (h1 f hf)
def a9D{V:P8 β}(h:a6J V):a6J (WB s++V.flatMap (P1 nx k)):=by
 refine dI.mpr ⟨dF ..,a9C h,λx hx y hy=>?_⟩;rw[ar.mp hx];obtain⟨f,hf,hy⟩:=cO.mp hy;obtain⟨b,_,rfl⟩:=aJ.mp hy;exact .inl (by simp)
structure MetB (nx:β->Nat->β) (k:Nat) (s:β) (P:β->Prop) (dn W:P8 β):Prop where
 eq:W=dd (WB s) (dn.flatMap (P1 nx k))
 pre:∃nw,W=dn++nw
 sor:a6J W
 ql:∀e∈W,e.2.length<=dn.length
 ok:∀e∈W,P e.1
def c2N(h:P s):MetB nx k s P [] (WB s):=⟨rfl,⟨WB s,rfl⟩,dF ..,λe he=>by rw[ar.mp he];exact aA _,λe he=>by rw[ar.mp he];exact h⟩
def MetB.nodup{P:β->Prop}{dn W:P8 β}(h:MetB nx k s P dn W):(W.map (·.1)).Nodup:=by rw[h.eq];exact a4k (by simp) _
def MetB.qlen(h:MetB nx k s P dn W)(he:e∈W):e.2.length<=W.length:=by
 have:=h.ql e he;obtain⟨nw,hn⟩:=h.pre;rw[hn,az];lia
def MetB.step(hP:∀b a,P b->a<k->P (nx b a))(h:MetB nx k s P dn W)(hp:W=dn++e::nw):MetB nx k s P (dn++[e]) (dd W (P1 nx k e)):=by
 have hd:a6J (dn++[e]):=by
  have h1:=h.sor;rw[hp]at h1;exact h1.sublist (yp (iC _) (by simp))
 have he:dd W (P1 nx k e)=dd (WB s) ((dn++[e]).flatMap (P1 nx k)):=by
  rw[eD,fL,iW,bj,b5i,<-h.eq]
 refine⟨he,?_,?_,λf hf=>?_,λf hf=>?_⟩
 ·obtain⟨E,hE⟩:=a4j W (P1 nx k e);exact⟨nw++E,by rw[hE,hp];simp⟩
 ·rw[he];exact (a9D hd).sublist (Z6 _ _)
 ·rw[az,bN];rcases av.mp ((Z6 _ _).subset hf) with z|z
  ·have:=h.ql f z;lia
  ·obtain⟨a,_,rfl⟩:=aJ.mp z;have:=h.ql e (by rw[hp];simp);simp;lia
 ·rcases av.mp ((Z6 _ _).subset hf) with z|z
  ·exact h.ok f z
  ·obtain⟨a,ha,rfl⟩:=aJ.mp z;exact hP e.1 a (h.ok e (by rw[hp];simp)) (bO.mp ha)
structure AllB (nx:β->Nat->β) (k:Nat) (s:β) (P:β->Prop) (W:P8 β):Prop where
 eq:W=dd (WB s) (W.flatMap (P1 nx k))
 sor:a6J W
 ql:∀e∈W,e.2.length<=W.length
 ok:∀e∈W,P e.1
def MetB.all(h:MetB nx k s P W W):AllB nx k s P W:=⟨h.eq,h.sor,λe he=>h.ql e he,h.ok⟩
end
section
variable {β α:Type}[DecidableEq β]
def kvB(key:β->D)(enc:α->D)(W:List (β×α)):List (D×D):=W.map λe=>(key e.1,enc e.2)
structure KeyB (kt:Bool) (key:β->D):Prop where
 eqv:∀a b,aI (key a) (key b)=decide (a=b)
 ok:∀a,q8 kt (key a)=yn
 im:∀a,imm (key a)=yn
variable {key:β->D}{enc:α->D}{W:List (β×α)}{t:β}{x:α}{kt:Bool}
def b7T:(kvB key enc W).length=W.length:=aj ..
def b7U{V:List (β×α)}:kvB key enc (W++V)=kvB key enc W++kvB key enc V:=aQ ..
def a8b(K:KeyB kt key):N0 (kvB key enc W) (key t)=decide (t∈W.map (·.1)):=by
 induction W with
 |nil=>rfl
 |cons e W ih=>
  show (aI (key e.1) (key t)||N0 (kvB key enc W) (key t))=_;rw[K.eqv,ih];by_cases h1:e.1=t
  ·simp[h1]
  ·have h2:t≠e.1:=λz=>h1 z.symm
   simp[h1,h2]
def b5p(K:KeyB kt key)(hn:(W.map (·.1)).Nodup)(h:(t,x)∈W):v5 (kvB key enc W) (key t)=cz (enc x):=by
 induction W with
 |nil=>cases h
 |cons e W ih=>
  rw[ay,bY]at hn;unfold v5 kvB;rw[ay,jt];show AI _ (match aI (key e.1) (key t) with|true=>_|false=>_)=_;rw[K.eqv];rcases aG.mp h with z|z
  ·rw[<-z,aL rfl];rfl
  ·have h1:e.1≠t:=λq=>hn.1 (by rw[q];exact aJ.mpr ⟨_,z,rfl⟩)
   rw[aW h1];exact ih hn.2 z
def b2z(K:KeyB kt key)(h:t∉W.map (·.1)):M8 (kvB key enc W) (key t) (enc x)=kvB key enc (W++[(t,x)]):=by
 unfold M8;rw[a8b K,aW h,b7U];rfl
def b5q(K:KeyB kt key):dIn neg kt (key t) (.dict (kvB key enc W))=cz (.bool (neg !=decide (t∈W.map (·.1)))):=by
 show (if q8 kt (key t) then cz (cK (neg !=N0 (kvB key enc W) (key t))) else xn)=_;rw[K.ok,a8b K];rfl
def c0U(K:KeyB kt key)(hn:(W.map (·.1)).Nodup)(h:(t,x)∈W):a6k kt (.dict (kvB key enc W)) (key t)=cz (enc x):=by
 show (if q8 kt (key t) then v5 (kvB key enc W) (key t) else xn)=_;rw[K.ok,b5p K hn h];rfl
end
def b5r{β α:Type}[DecidableEq β]{W:List (β×α)}{c:β×α}(h:L<=W.length):((dd1 W c).drop L).map (·.1)=if c.1∈W.map (·.1) then (W.drop L).map (·.1) else (W.drop L).map (·.1)++[c.1]:=by
 by_cases hc:c.1∈W.map (·.1)
 ·rw[Q7 hc,aE hc]
 ·rw[K5 hc,aM hc,pN h,aQ,cw]
def b5s[DecidableEq β](W C:List (β×α)):W.length<=(dd W C).length:=by
 obtain⟨E,e⟩:=a4j W C;rw[e,az];lia
def b7V[DecidableEq β](C:List (β×α))(h:e∈W):e∈dd W C:=by
 obtain⟨E,q⟩:=a4j W C;rw[q];exact ao _ h
def c2O(h:argsOk us ds=yn):fnL us n g gm ds=a3w (g gm (ds++(.none::aP n .none))):=by
 unfold fnL;rw[aE h];cases g gm (ds++(.none::aP n .none)) with
 |none=>rfl
 |some o=>cases o<;>rfl
def c2P{Z ds:List D}(h:f Z=cz ds):b7z m us js fb f Z=m (fnE us (js.map λj=>Z.getD j .none) fb) ds:=by
 unfold b7z;rw[h];rfl
def c2Q(h:argsOk us ds=yn):fnE us rm f ds=f (ds++rm):=aE h
abbrev PW:=List ((Int×Int)×List Int)
def atI_nums{ns:List Int}{j:Int}(a:0<=j)(b:j<ns.length):L2.atI (ns.map aR) j=cz (.int (ns.getD j.toNat 0)):=by
 rw[a1I a (by rw[aj];exact b),dC];rw[ah,ag (by lia)];rfl
def a2N:Option (List Int)->D
 |none=>.none
 |some q=>.list (q.map .int)
def a4l:D0 yn [.int i,.int j]=cz (.int (max i j)):=by
 show cz (aR (if j>i then j else i))=_
 congr 2;by_cases c:j>i
 ·rw[aE c];lia
 ·rw[aM c];lia
def c0V:D0 yH [.int i,.int j]=cz (.int (min i j)):=by
 show cz (aR (if j<i then j else i))=_
 congr 2;by_cases c:j<i
 ·rw[aE c];lia
 ·rw[aM c];lia
def b5t:a6b [.bool b]=cz (.int (if b then 1 else 0)):=by cases b<;>rfl
end VS
namespace Prog
open L2 VS
def Q8{ls:List Int}(hn:∀p∈r,0<=p.2/\p.2<(ls.length:Int))(hl:r.length<=1000):j9 [rwD r,iD ls]=cz (rwD (rn r ls)):=by
 unfold j9;rw[B9 (by simp[VS.argsOk])];unfold U8;rw[b0b,a3W (ds:=r.map stD) (λd=>match d with|.tuple [.int a,.int b]=>stD (a,ls.getD b.toNat 0)|_=>.none)]
 ·rw[bD];show cz (cF (r.map _))=_;unfold rwD rn;rw[bD];rfl
 ·exact a1T (by unfold rwD;walk_at "ev") (m7 _ (λ_=>a1V) r)
 ·rw[aj];lia
 ·intro d hd;obtain⟨p,hp,rfl⟩:=aJ.mp hd;have:=hn p hp;refine⟨[.int p.1,.int p.2],rfl,?_⟩;show T8 _ [.int p.1,.int p.2,.list (ls.map .int)]=cz (stD (p.1,ls.getD p.2.toNat 0));walk_at "ev";rw[P0 this.1 this.2];walk_at "ev";rfl
def b5u{m:j5}{ls:List Int}(hn:∀r∈m,∀p∈r,0<=p.2/\p.2<(ls.length:Int))(hl:∀r∈m,r.length<=1000)(hm:m.length<=1000):u9 [.list (m.map rwD),iD ls]=cz (iD (a2b (m.map λr=>rn r ls))):=by
 unfold u9;rw[B9 (by simp[VS.argsOk])];unfold a0z;walk_at "ev";refine N2 (λZ=>∃x y z,Z=[.list (m.map rwD),iD ls,x,iD (a2b (m.map λr=>rn r ls)),y,z]) ?_ ?_
 ·obtain⟨Z',h1,x,y,rfl⟩:=z7 (enc:=rwD) (set:=r0 4) (xs:=m) (g:=g9 (j8 5 (X4 (eCl j9 (a7 (a6 4) (a7 (a6 1) b9))))) (a7r 3 (V8 2 yn (a6 5) (eCl b0c (a7 (a6 2) b9)))))
   (Z:=[.list (m.map rwD),iD ls,.dict [],.list [],.none,.none])
   (λpre Z=>∃x y,Z=[.list (m.map rwD),iD ls,.dict (dz (ded (pre.map λr=>rn r ls)) 0),iD (a2b (pre.map λr=>rn r ls)),x,y])
   ⟨.none,.none,rfl⟩ (by
    rintro pre r post e Z ⟨x,y,rfl⟩;have hr:r∈m:=by rw[e];simp
    have hlen:pre.length<m.length:=by rw[e];simp
    have hd:=b0z (pre.map λr=>rn r ls);rw[aj]at hd;refine⟨_,[.list (m.map rwD),iD ls,.dict (dz (ded ((pre++[r]).map λr=>rn r ls)) 0),iD (a2b ((pre++[r]).map λr=>rn r ls)),rwD r,T4 (rn r ls)],rfl,?_,_,_,rfl⟩;walk_at "ev";rw[a6H (ds:=(rn r ls).map stD) (by walk_at "ev";exact Q8 (hn r hr) (hl r hr)) (m7 _ (λ_=>a1V) _)];walk_at "ev";rw[c0P (k:=T4 (rn r ls)) (e:=.int ((ded (pre.map λr=>rn r ls)).length:Nat)) (kvs:=dz (ded (pre.map λr=>rn r ls)) 0) (ds:=(a2b (pre.map λr=>rn r ls)).map .int) (by rfl) (by walk_at "ev";rw[c0O,a9x]) (by rfl) (b2v _) (by rw[a9x];lia) (by rfl) (by rfl) (by decide) (by rw[aj,a7Z,aj];lia)];rw[b7M,b7N,aQ,cw,L7];have tW:a2b ((pre.map λr=>rn r ls)++[rn r ls])=a2b (pre.map λr=>rn r ls)++[(((a4R (ded (pre.map λr=>rn r ls)) (rn r ls)).idxOf (rn r ls):Nat):Int)]:=by
     unfold a2b;rw[aQ,cw,L7]
     congr 1;refine bK λy hy=>?_
     rw[b5b (U9.mpr hy)]
    rw[tW];unfold iD;rw[aQ];rfl)
  exact⟨_,h1,_,_,_,rfl⟩
 ·rintro Z ⟨x,y,z,rfl⟩;walk_at "ev"
end Prog
namespace VS
open L2
def b5v{Z ds:List D}(h:Z.getD j .none=.list ds)(hl:ds.length<1000000)(hf:f (Z.set j (.list (ds++[Z.getD i .none])))=cz d):a0l j i f Z=cz (.nx ((Z.set j (.list (ds++[Z.getD i .none]))).set i d)):=by
 unfold a0l;rw[h];show (if _ then _ else _)=_;rw[aE hl,hf];rfl
def a6K{α:Type}{f:Nat->α}{j:Nat}:L2.atI ((aB (j+1)).map f) (-1)=cz (f j):=by
 unfold L2.atI ixN;rw[aj,bE,aM (by decide),aE (by lia)];show ((aB (j+1)).map f)[((j+1:Nat)+(-1:Int)).toNat]?=_;rw[show (((j+1:Nat):Int)+(-1:Int)).toNat=j by lia,a_,fP (by lia)];rfl
end VS
namespace Prog
open L2 VS
def a5F{m:j5}{k:Nat}(w:WF m k)(d:Nat):u9 [.list (m.map rwD),iD (lvl m d)]=cz (iD (lvl m (d+1))):=by
 refine b5u (λr hr p hp=>?_) (λr hr=>by rw[w.rows r hr];have:=w.k5;lia) (by have:=w.le;lia);rw[V0];exact w.next r hr p hp
def a5G{m:j5}{k:Nat}(w:WF m k):∃D:Nat,E8 [.list (m.map rwD)]=cz (.list ((aB (D+1)).map λd=>iD (lvl m d)))/\D+1<=m.length/\(∀i<D,cls m i<cls m (i+1))/\
  ∀s t:Int,0<=s->s<m.length->0<=t->t<m.length->lv m D s=lv m D t->lv m (D+1) s=lv m (D+1) t:=by
 unfold E8;rw[B9 (by simp[VS.argsOk])];unfold a2A;have hle:=w.le;have h0:o8 (iL (a6 0)) [] pt1 tT (eC (.int 0)) [.list (m.map rwD),.none,.none]=cz (iD (lvl m 0)):=by
  rw[a3W (ds:=m.map rwD) (λ_=>.int 0)]
  ·rw[bD];show _=cz (cF ((m.map λ_=>(0:Int)).map .int));rw[bD];rfl
  ·walk_at "ev"
  ·rw[aj];lia
  ·exact λd hd=>⟨[d],rfl,rfl⟩
 walk_at "ev";show ∃D,a3w (thn (b6K 1 (listE (b3E (o8 (iL (a6 0)) [] pt1 tT (eC (.int 0)) [.list (m.map rwD),.none,.none]) (cz []))) [.list (m.map rwD),.none,.none]) _)=_/\_;rw[h0];walk_at "ev";rw[show L2.atI [iD (lvl m 0)] (-1)=cz (iD (lvl m 0)) from a6K (f:=λd=>iD (lvl m d)) (j:=0)];walk_at "ev";rw[a5F w 0];walk_at "ev";rw[c0Q];obtain⟨Z',h1,D,rfl,q1,q2⟩:=a0r (c:=tB (e2 dGt (eCl a0x (a7 (a6 2) b9)) (eCl a0x (a7 (e2 a4G (a6 1) (eC (.int (-1)))) b9)))) (g:=g9 (a0l 1 2 (eCl u9 (a7 (a6 0) (a7 (a6 2) b9)))) G9)
  (I:=λj Z=>Z=[.list (m.map rwD),.list ((aB (j+1)).map λd=>iD (lvl m d)),iD (lvl m (j+1))]/\∀i<j,cls m i<cls m (i+1))
  (Q:=λZ=>∃j,Z=[.list (m.map rwD),.list ((aB (j+1)).map λd=>iD (lvl m d)),iD (lvl m (j+1))]/\(∀i<j,cls m i<cls m (i+1))/\cls m (j+1)<=cls m j) 30
  (by
   rintro j Z ⟨rfl,hc⟩;have up:∀i≤j,i+1<=cls m i:=by
    intro i
    induction i with
    |zero=>intro _;exact a1t w 0
    |succ i ih=>intro hi;have:=ih (by lia);have:=hc i (by lia);lia
   have hj:=up j (aA _);have pI:=b0C m j;refine⟨by lia,?_⟩;have kU:tB (e2 dGt (eCl a0x (a7 (a6 2) b9)) (eCl a0x (a7 (e2 a4G (a6 1) (eC (.int (-1)))) b9))) [.list (m.map rwD),.list ((aB (j+1)).map λd=>iD (lvl m d)),iD (lvl m (j+1))]=cz (decide (cls m j<cls m (j+1))):=by
    walk_at "ev";rw[a6K (f:=λd=>iD (lvl m d))];walk_at "ev";unfold iD;rw[b0I w,b0I w];walk_at "ev";have h1:=a1t w j;have h2:=a1t w (j+1)
    congr 1;exact decide_eq_decide.mpr (by lia)
   rw[kU];by_cases c:cls m j<cls m (j+1)
   ·refine .inr ⟨by rw[aL c],[.list (m.map rwD),.list ((aB (j+2)).map λd=>iD (lvl m d)),iD (lvl m (j+2))],?_,rfl,λi hi=>?_⟩
    ·rw[a0w,b5v (ds:=(aB (j+1)).map λd=>iD (lvl m d)) (d:=iD (lvl m (j+2))) (by rfl) (by rw[aj,bE];lia) (by walk_at "ev";exact a5F w (j+1))];walk_at "ev";rw[jo (n:=j+1),aQ];rfl
    ·rcases dD i j with z|z
     ·exact hc i z
     ·rw[show i=j by lia];exact c
   ·exact .inl ⟨by rw[aW c],j,rfl,hc,by lia⟩) 1000000 0 [.list (m.map rwD),.list [iD (lvl m 0)],iD (lvl m 1)] ⟨rfl,λi hi=>absurd hi (by lia)⟩ (by lia)
 rw[h1];walk_at "ev";have up:∀i≤D,i+1<=cls m i:=by
  intro i
  induction i with
  |zero=>intro _;exact a1t w 0
  |succ i ih=>intro hi;have:=ih (by lia);have:=q1 i (by lia);lia
 have hj:=up D (aA _);have pI:=b0C m D;exact⟨D,rfl,by lia,q1,λs t s0 s1 t0 t1 h=>(b5d w D).2 q2 s t s0 s1 t0 t1 h⟩
end Prog
namespace VS
open L2
def dk1(K:List Int)(x:Int):List Int:=if x∈K then K else K++[x]
def dkk(K L:List Int):List Int:=L.foldl dk1 K
section
variable {K L L':List Int}{x:Int}
def V1(h:x∈K):dk1 K x=K:=aE h
def V2(h:x∉K):dk1 K x=K++[x]:=aM h
def V3:dkk K (L++L')=dkk (dkk K L) L':=by unfold dkk;rw[gF]
def C9:dkk K (L++[x])=dk1 (dkk K L) x:=by rw[V3];rfl
def N6(K L:List Int):x∈dkk K L↔x∈K\/x∈L:=by
 induction L using snoc_ind with
 |h0=>simp[dkk]
 |h1 L y ih=>
  rw[C9,av,<-or_assoc,<-ih,ar];by_cases h:y∈dkk K L
  ·rw[V1 h];exact⟨.inl,λz=>z.elim id λz=>z▸h⟩
  ·rw[V2 h,av,ar]
def a2W(K L:List Int):∃E,dkk K L=K++E:=by
 induction L using snoc_ind with
 |h0=>exact⟨[],(bj _).symm⟩
 |h1 L y ih=>
  obtain⟨E,e⟩:=ih;rw[C9];by_cases h:y∈dkk K L
  ·rw[V1 h];exact⟨E,e⟩
  ·rw[V2 h,e];exact⟨E++[y],aV ..⟩
def b2A(h:K.Nodup)(L:List Int):(dkk K L).Nodup:=by
 induction L using snoc_ind with
 |h0=>exact h
 |h1 L y ih=>
  rw[C9];by_cases hy:y∈dkk K L
  ·rw[V1 hy];exact ih
  ·rw[V2 hy,bR];exact⟨ih,by simp,λa ha b hb e=>hy (by rw[ar.mp hb]at e;exact e▸ha)⟩
def b5w(h:∀x∈L,x∈K):dkk K L=K:=by
 induction L using snoc_ind with
 |h0=>rfl
 |h1 L y ih=>
  have e:=ih λx hx=>h x (ao _ hx)
  rw[C9,e,V1 (h y (by simp))]
def b7W(c:Int->Int)(X K L:List Int):dkk X ((dkk K L).map c)=dkk X ((K++L).map c):=by
 induction L using snoc_ind with
 |h0=>rw[bj];rfl
 |h1 L y ih=>
  rw[C9,<-aV,aQ,cw,C9,<-ih];by_cases h:y∈dkk K L
  ·rw[V1 h,V1];exact (N6 _ _).mpr (.inr (de h))
  ·rw[V2 h,aQ,cw,C9]
def b5x(W C:List (Int×α)):(dd W C).map (·.1)=dkk (W.map (·.1)) (C.map (·.1)):=by
 induction C using snoc_ind with
 |h0=>rfl
 |h1 C c ih=>
  rw[P7,aQ,cw,C9,<-ih];by_cases h:c.1∈(dd W C).map (·.1)
  ·rw[Q7 h,V1 h]
  ·rw[K5 h,V2 h,aQ,cw]
def b7X{A B:List Int}(h:x∈A):(A++B).idxOf x=A.idxOf x:=by rw[ki,aE h]
def b5y{s:List Int}(hx:x∈s)(hy:y∈s)(h:s.idxOf x=s.idxOf y):x=y:=by
 have h1:=dX (bZ.mpr hx);have h2:=dX (bZ.mpr hy);rw[<-h1,<-h2];simp only[h]
end
section
variable {m:j5}{k:Nat}{c:Int->Int}{r:List Int}
def a6L(m:j5)(k:Nat)(c:Int->Int):Prop:=∀s t:Int,0<=s->s<m.length->0<=t->t<m.length->c s=c t->∀a:Int,0<=a->a<k->(stp m s a).1=(stp m t a).1/\c (stp m s a).2=c (stp m t a).2
structure Rch (m:j5) (k:Nat) (r:List Int):Prop where
 eq:r=dkk [0] (r.flatMap λs=>(aB k).map λ(a:Nat)=>(stp m s a).2)
 range:∀s∈r,0<=s/\s<(m.length:Int)
 len:r.length<=m.length
 walks:∀s∈r,∃p:List Int,(m5 m 0 p).2=s/\∀a∈p,0<=a/\a<(k:Int)
def fc(c:Int->Int)(r:List Int):List (Int×Int):=dd [] (r.map λs=>(c s,s))
def cl(c:Int->Int)(r:List Int):List Int:=(fc c r).map (·.1)
def fs(c:Int->Int)(r:List Int):List Int:=(fc c r).map (·.2)
def pls(c:Int->Int)(r:List Int)(s:Int):Nat:=(cl c r).idxOf (c s)
def n8(m:j5)(c:Int->Int)(r:List Int):j5:=(fs c r).map λf=>(rowAt m f).map λp=>(p.1,(pls c r p.2:Int))
def a0Y{e:Int×Int}(h:e∈fc c r):e.2∈r/\e.1=c e.2:=by
 have h1:=(Z6 _ _).subset h;rw[bM]at h1;obtain⟨s,hs,rfl⟩:=aJ.mp h1;exact⟨hs,rfl⟩
def b0P:cl c r=dkk [] (r.map c):=by
 unfold cl fc;rw[b5x,bD];rfl
def Z7:(cl c r).Nodup:=by rw[b0P];exact b2A bH _
def a2e(h:s∈r):c s∈cl c r:=by rw[b0P];exact (N6 _ _).mpr (.inr (de h))
def a2f:(cl c r).length=(fs c r).length:=by unfold cl fs;rw[aj,aj]
def a9E:(fs c r).length<=r.length:=by
 have:=a9y (W:=[]) (r.map λs=>(c s,s));unfold fs fc;rw[aj];simpa using this
def a1u(i:Nat)(h:i<(fs c r).length):∃f,(fs c r)[i]?=cz f/\f∈r/\(cl c r)[i]?=cz (c f):=by
 have h1:i<(fc c r).length:=by unfold fs at h;rwa[aj]at h
 refine⟨((fc c r)[i]).2,?_,?_,?_⟩
 ·unfold fs;rw[a_,ag h1];rfl
 ·exact (a0Y (dB h1)).1
 ·unfold cl;rw[a_,ag h1,<-(a0Y (dB h1)).2];rfl
def c0W:cl c r=(fs c r).map c:=by
 unfold cl fs;rw[bD];exact bK λe he=>(a0Y he).2
def a4m(h:s∈r):pls c r s<(fs c r).length:=by rw[<-a2f];exact bZ.mpr (a2e h)
def b5z(h:s∈r):∃f,(fs c r)[pls c r s]?=cz f/\f∈r/\c f=c s:=by
 obtain⟨f,h1,h2,h3⟩:=a1u (c:=c) (r:=r) _ (a4m h);refine⟨f,h1,h2,?_⟩;have h4:=dX (bZ.mpr (a2e (c:=c) h));have h5:=ag (bZ.mpr (a2e (c:=c) h));rw[h4]at h5;unfold pls at h3;rw[h5]at h3;exact (aK h3).symm
def Rch.zero(R:Rch m k r):0∈r:=by rw[R.eq];exact (N6 _ _).mpr (.inl (by simp))
def Rch.next(R:Rch m k r){s:Int}(hs:s∈r){a:Int}(h0:0<=a)(h1:a<k):(stp m s a).2∈r:=by
 rw[R.eq];refine (N6 _ _).mpr (.inr (cO.mpr ⟨s,hs,aJ.mpr ⟨a.toNat,bO.mpr (by lia),?_⟩⟩));rw[mM h0]
def a8c(R:Rch m k r):pls c r 0=0:=by
 unfold pls;rw[b0P,R.eq];obtain⟨E,e⟩:=a2W [0] (r.flatMap λs=>(aB k).map λ(a:Nat)=>(stp m s a).2);rw[e,aQ,V3];obtain⟨E2,e2⟩:=a2W (dkk [] ([0].map c)) (E.map c);rw[e2];show (([]++[c 0])++E2).idxOf (c 0)=0;simp
def K2:(n8 m c r).length=(fs c r).length:=aj ..
def a9F(h:(fs c r)[i]?=cz f):rowAt (n8 m c r) (i:Nat)=(rowAt m f).map λp=>(p.1,(pls c r p.2:Int)):=by
 unfold rowAt n8;rw[bS,ah,a_,h];rfl
def a4n(w:WF m k)(jj:∀s:Int,0<=s->s<m.length->(rowAt m s).length=k){i:Nat}{f:Int}(h:(fs c r)[i]?=cz f)(h0:0<=f)(h1:f<m.length){a:Int}(a0:0<=a)(a1:a<k):stp (n8 m c r) (i:Nat) a=((stp m f a).1,(pls c r (stp m f a).2:Int)):=by
 unfold stp;rw[a9F h,ah,a_];have hl:=jj f h0 h1;rw[ag (by lia),ah,ag (by lia)];rfl
def a2g(w:WF m k)(R:Rch m k r):WF (n8 m c r) k:=by
 refine⟨?_,?_,w.k1,w.k5,λx hx=>?_,λx hx p hp=>?_⟩
 ·rw[K2];exact ij (cG _) (a4m (c:=c) R.zero)
 ·rw[K2];have:=a9E (c:=c) (r:=r);have:=R.len;have:=w.le;lia
 ·obtain⟨f,hf,rfl⟩:=aJ.mp hx;rw[aj];obtain⟨e,he,rfl⟩:=aJ.mp hf;have h1:=R.range _ (a0Y he).1;exact w.rows _ (by
   unfold rowAt;rw[ah,ag (by lia)];exact dB _)
 ·obtain⟨f,hf,rfl⟩:=aJ.mp hx;obtain⟨q,hq,rfl⟩:=aJ.mp hp;obtain⟨e,he,rfl⟩:=aJ.mp hf;have h1:=(a0Y he).1;have hr:=R.range _ h1;have hm:rowAt m e.2∈m:=by
   unfold rowAt;rw[ah,ag (by lia)];exact dB _
  obtain⟨j,hj⟩:=cZ.mp hq;have rM:=(aO.mp hj).1;rw[w.rows _ hm]at rM;have hs:stp m e.2 (j:Nat)=q:=by
   unfold stp;rw[bS,ah,hj];rfl
  have h2:=R.next h1 (a:=(j:Nat)) (by lia) (by lia);rw[hs]at h2;have h3:=a4m (c:=c) h2;rw[K2];show (0:Int)<=(pls c r q.2:Int)/\(pls c r q.2:Int)<((fs c r).length:Int);lia
def Z8(w:WF m k)(jj:∀s:Int,0<=s->s<m.length->(rowAt m s).length=k)(C:a6L m k c)(R:Rch m k r){s:Int}(hs:s∈r){a:Int}(a0:0<=a)(a1:a<k):stp (n8 m c r) (pls c r s:Int) a=((stp m s a).1,(pls c r (stp m s a).2:Int)):=by
 obtain⟨f,h1,h2,h3⟩:=b5z (c:=c) hs;have r1:=R.range _ h2;have r2:=R.range _ hs;rw[a4n w jj h1 r1.1 r1.2 a0 a1];obtain⟨h4,h5⟩:=C f s r1.1 r1.2 r2.1 r2.2 h3 a a0 a1;rw[h4];unfold pls;rw[h5]
theorem a2F(w:WF m k)(jj:∀s:Int,0<=s->s<m.length->(rowAt m s).length=k)(C:a6L m k c)(R:Rch m k r):∀(p:List Int) {s:Int},s∈r->(∀a∈p,0<=a/\a<(k:Int))->m5 (n8 m c r) (pls c r s:Int) p=((m5 m s p).1,(pls c r (m5 m s p).2:Int))
 |[],s,_,_=>rfl
 |a::p,s,hs,h=>by
  have ha:=h a aN;show ((stp (n8 m c r) (pls c r s:Int) a).1::(m5 (n8 m c r) (stp (n8 m c r) (pls c r s:Int) a).2 p).1,(m5 (n8 m c r) (stp (n8 m c r) (pls c r s:Int) a).2 p).2)=_;rw[Z8 w jj C R hs ha.1 ha.2];show ((stp m s a).1::(m5 (n8 m c r) (pls c r (stp m s a).2:Int) p).1,(m5 (n8 m c r) (pls c r (stp m s a).2:Int) p).2)=_;rw[a2F w jj C R p (R.next hs ha.1 ha.2) λb hb=>h b (ax _ hb)];rfl
end
def AllMet.rch(h:AllMet m k W):Rch m k (W.map (·.1)):=by
 refine⟨?_,λs hs=>?_,by rw[aj];exact h.len,λs hs=>?_⟩
 ·have h1:=b5x W0 (W.flatMap (a4S m k));rw[<-h.eq]at h1;have h2:(W.flatMap (a4S m k)).map (·.1)=(W.map (·.1)).flatMap λs=>(aB k).map λ(a:Nat)=>(stp m s a).2:=by
   rw[FL,List.flatMap_map]
   congr 1
   funext e
   unfold a4S;rw[bD];rfl
  rw[h2]at h1;exact h1
 ·obtain⟨e,he,rfl⟩:=aJ.mp hs;exact h.range e he
 ·obtain⟨⟨t,p⟩,he,rfl⟩:=aJ.mp hs;exact⟨p,h.leads _ (aA _) he⟩
section
variable {m:j5}{k:Nat}{c:Int->Int}{r:List Int}
def csu(m:j5)(k:Nat)(c:Int->Int)(s:Int):List Int:=(aB k).map λ(a:Nat)=>c (stp m s a).2
def c0X(C:a6L m k c){s t:Int}(s0:0<=s)(s1:s<m.length)(t0:0<=t)(t1:t<m.length)(h:c s=c t):csu m k c s=csu m k c t:=by
 unfold csu;exact bK λa ha=>(C s t s0 s1 t0 t1 h a (by lia) (by have:=bO.mp ha;lia)).2
def a9G(C:a6L m k c)(X:List Int):∀(r:List Int),(∀s∈r,0<=s/\s<(m.length:Int))->dkk X (r.flatMap (csu m k c))=dkk X ((fs c r).flatMap (csu m k c)):=by
 intro r
 induction r using snoc_ind with
 |h0=>intro _;rfl
 |h1 r s ih=>
  intro hr;have ih:=ih λs hs=>hr s (ao _ hs)
  have hs:=hr s (by simp);rw[eD,V3,fL,iW,bj];have e:fc c (r++[s])=dd1 (fc c r) (c s,s):=by unfold fc;rw[aQ,cw,P7]
  by_cases h:c s∈(fc c r).map (·.1)
  ·have e2:fs c (r++[s])=fs c r:=by unfold fs;rw[e,Q7 (c:=(c s,s)) h]
   rw[e2,<-ih];refine b5w λx hx=>(N6 _ _).mpr (.inr ?_)
   obtain⟨f,hf,ef⟩:=aJ.mp h;have oH:=a0Y hf;have nM:=hr f.2 (ao _ oH.1);rw[c0X C hs.1 hs.2 nM.1 nM.2 (by rw[<-oH.2];exact ef.symm)]at hx;exact cO.mpr ⟨f.2,oH.1,hx⟩
  ·have e2:fs c (r++[s])=fs c r++[s]:=by unfold fs;rw[e,K5 (c:=(c s,s)) h,aQ];rfl
   rw[e2,eD,V3,<-ih,fL,iW,bj]
def a6M(C:a6L m k c)(R:Rch m k r):cl c r=dkk [c 0] ((fs c r).flatMap (csu m k c)):=by
 rw[<-a9G C [c 0] r R.range,b0P];have e:dkk [] (r.map c)=dkk [] ((dkk [0] (r.flatMap λs=>(aB k).map λ(a:Nat)=>(stp m s a).2)).map c):=by rw[<-R.eq]
 rw[e,b7W,aQ,V3];have e2:(r.flatMap λs=>(aB k).map λ(a:Nat)=>(stp m s a).2).map c=r.flatMap (csu m k c):=by
  rw[FL]
  congr 1
  funext s
  unfold csu;rw[bD];rfl
 rw[e2];rfl
def b7Y(C:a6L m k c)(R:Rch m k r){j:Nat}(hj:j<(fs c r).length):j<(dkk [c 0] (((fs c r).take j).flatMap (csu m k c))).length:=by
 refine Nat.lt_of_not_le λhZ=>?_
 have pI:=a6M C R;rw[<-iO j (fs c r),eD,V3]at pI;obtain⟨E,e⟩:=a2W (dkk [c 0] (((fs c r).take j).flatMap (csu m k c))) (((fs c r).drop j).flatMap (csu m k c));rw[e]at pI;have iK:∀x,x∈dkk [c 0] (((fs c r).take j).flatMap (csu m k c))↔x=c 0\/x∈((fs c r).take j).flatMap (csu m k c):=λx=>by rw[N6,ar]
 generalize dkk [c 0] (((fs c r).take j).flatMap (csu m k c))=Zq at hZ pI iK;have wA:∀x∈Zq,(cl c r).idxOf x<j:=λx hx=>by
  rw[pI,b7X hx];have:=bZ.mpr hx;lia
 have vS:∀s∈r,c s∈Zq->∀a:Int,0<=a->a<k->c (stp m s a).2∈Zq:=λs hs hz a a0 a1=>by
  obtain⟨f,h1,h2,h3⟩:=b5z (c:=c) hs;have r1:=R.range _ h2;have r2:=R.range _ hs;rw[<-(C f s r1.1 r1.2 r2.1 r2.2 h3 a a0 a1).2];refine (iK _).mpr (.inr (cO.mpr ⟨f,?_,aJ.mpr ⟨a.toNat,bO.mpr (by lia),by rw[mM a0]⟩⟩));have hp:pls c r s<j:=wA _ hz;exact bw (i:=pls c r s) (by rw[kA hp];exact h1)
 have jk:∀p:List Int,(∀a∈p,0<=a/\a<(k:Int))->(m5 m 0 p).2∈r/\c (m5 m 0 p).2∈Zq:=by
  intro p
  induction p using snoc_ind with
  |h0=>exact λ_=>⟨R.zero,(iK _).mpr (.inl rfl)⟩
  |h1 p a ih=>
   intro hp;obtain⟨i1,i2⟩:=ih λb hb=>hp b (ao _ hb)
   have ha:=hp a (by simp);rw[a0R];exact⟨R.next i1 ha.1 ha.2,vS _ i1 i2 a ha.1 ha.2⟩
 obtain⟨f,f1,f2,f3⟩:=a1u (c:=c) (r:=r) j hj;obtain⟨p,p1,p2⟩:=R.walks f f2;have h1:=(jk p p2).2;rw[p1]at h1;have h2:=wA _ h1;have hi:(cl c r).idxOf (c f)<(cl c r).length:=bZ.mpr (a2e f2);have h3:(cl c r)[(cl c r).idxOf (c f)]?=cz (c f):=by rw[ag hi,dX hi]
 have:=(iB hi Z7).mp (h3.trans f3.symm);lia
def b5A(h:(fs c r)[i]?=cz f):pls c r f=i:=by
 have hi:=(aO.mp h).1;obtain⟨f',f1,f2,f3⟩:=a1u (c:=c) (r:=r) i hi;rw[h]at f1;cases f1
 have hj:(cl c r).idxOf (c f)<(cl c r).length:=bZ.mpr (a2e f2);have h3:(cl c r)[(cl c r).idxOf (c f)]?=cz (c f):=by rw[ag hj,dX hj]
 exact (iB hj Z7).mp (h3.trans f3.symm)
end
theorem a4o:∀(l:List D) (j:Nat),J9 l j=(aB l.length).map λ(s:Nat)=>dw [.int ((j+s:Nat):Int),l.getD s .none]
 |[],_=>rfl
 |n::ls,k=>by
  show dw [.int k,n]::J9 ls (k+1)=_;rw[a4o ls (k+1),aY,uH,ay,bD]
  congr 1;refine bK λs _=>?_
  show dw [.int ((k+1+s:Nat):Int),ls.getD s .none]=.tuple [.int ((k+(s+1):Nat):Int),(n::ls).getD (s+1) .none];rw[eB,gr,jE 1]
def a1v(f:Nat->D)(k:Nat):J9 ((aB k).map f) 0=(aB k).map λ(a:Nat)=>dw [.int (a:Int),f a]:=by
 rw[a4o,aj,bE];refine bK λa ha=>?_
 have h:=bO.mp ha;rw[iA,ah,a_,fP h];rfl
end VS
namespace Prog
open L2 VS
abbrev iDl:List Int->D:=λns=>.list (ns.map .int)
abbrev kLs{β:Type}(key:β->D)(l:List β):D:=.list (l.map key)
def b5B[DecidableEq β](K:KeyB yH key){gm:List D->Option D}(hk:k<=5){W:P8 β}{q:List Int}(hq:(b,q)∈W)(pW:(W.map (·.1)).Nodup)(hL:L<=W.length)(hW:W.length<=1000)(xO:q.length<=1000)(s0 tD x y:D) :
  ∃x' y',W4 (a3r 6 7) ((sIf (tB (e2 (dIn yn yH) (a6 7) (a6 2))) (g9 (J0 2 yH (a6 7) (eI (U0 (e2 (a6k yH) (a6 2) (a6 5)) (v6 (a7 (a6 6) b9))))) (Q4 4 (.l .i) C3 (a6 7))) G9)) ((aB k).map λ(a:Nat)=>dw [.int (a:Int),key (nx b a)]) [s0,.none,.dict (kvB key iDl W),tD,kLs key ((W.drop L).map (·.1)),key b,x,y] =
   cz (.nx [s0,.none,.dict (kvB key iDl (dd W (P1 nx k (b,q)))),tD,kLs key (((dd W (P1 nx k (b,q))).drop L).map (·.1)),key b,x',y']):=by
 obtain⟨Z',g1,x',y',rfl⟩:=z7 (enc:=λ(a:Nat)=>dw [.int (a:Int),key (nx b a)]) (set:=a3r 6 7) (xs:=aB k) (g:=(sIf (tB (e2 (dIn yn yH) (a6 7) (a6 2))) (g9 (J0 2 yH (a6 7) (eI (U0 (e2 (a6k yH) (a6 2) (a6 5)) (v6 (a7 (a6 6) b9))))) (Q4 4 (.l .i) C3 (a6 7))) G9))
  (Z:=[s0,.none,.dict (kvB key iDl W),tD,kLs key ((W.drop L).map (·.1)),key b,x,y])
  (λpre Z=>∃x y,Z=[s0,.none,.dict (kvB key iDl (dd W (pre.map λ(a:Nat)=>(nx b a,q++[(a:Int)])))),tD,kLs key (((dd W (pre.map λ(a:Nat)=>(nx b a,q++[(a:Int)]))).drop L).map (·.1)),key b,x,y]) ⟨x,y,rfl⟩ (by
   rintro pre a post e Z ⟨x,y,rfl⟩;obtain⟨ea,ha,_⟩:=Y7 e;have wb:=a4k pW (pre.map λ(a:Nat)=>(nx b a,q++[(a:Int)]));have iK:=b7V (pre.map λ(a:Nat)=>(nx b a,q++[(a:Int)])) hq;have hlen:=a9y W (pre.map λ(a:Nat)=>(nx b a,q++[(a:Int)]));have DT:=b5s W (pre.map λ(a:Nat)=>(nx b a,q++[(a:Int)]));have gn:(pre.map λ(a:Nat)=>(nx b a,q++[(a:Int)])).length<=5:=by rw[aj];lia
   rw[aQ,cw,P7];generalize dd W (pre.map λ(a:Nat)=>(nx b a,q++[(a:Int)]))=V at wb iK hlen DT;have zI:=c0U (enc:=iDl) K wb iK;by_cases c:nx b a∈V.map (·.1)
   ·refine⟨_,[s0,.none,.dict (kvB key iDl V),tD,kLs key ((V.drop L).map (·.1)),key b,.int a,key (nx b a)],rfl,?_,_,_,by rw[Q7 c]⟩;have ma:dIn yn yH (key (nx b a)) (.dict (kvB key iDl V))=cz (.bool yH):=by rw[b5q K,aL c];rfl
    walk_at "ev";rw[ma];walk_at "ev"
   ·have ma:dIn yn yH (key (nx b a)) (.dict (kvB key iDl V))=cz (.bool yn):=by rw[b5q K,aW c];rfl
    have BG:=b5r (W:=V) (c:=(nx b a,q++[(a:Int)])) (L:=L) (by lia);rw[aM c]at BG;refine⟨_,[s0,.none,.dict (kvB key iDl (dd1 V (nx b a,q++[(a:Int)]))),tD,kLs key (((dd1 V (nx b a,q++[(a:Int)])).drop L).map (·.1)),key b,.int a,key (nx b a)],rfl,?_,_,_,rfl⟩;have Gq:(((V.drop L).map (·.1)).map key).length<1000000:=by rw[aj,aj,iV];lia
    have tM:eI (U0 (e2 (a6k yH) (a6 2) (a6 5)) (v6 (a7 (a6 6) b9))) [s0,.none,.dict (kvB key iDl V),tD,kLs key ((V.drop L).map (·.1)),key b,.int a,key (nx b a)]=cz (iDl (q++[(a:Int)])):=by
     rw[a5w,b0s];walk_at "ev";rw[zI,b4O (by rw[aj];simp;lia)];show lIs (cz (.list (q.map .int++[.int a])))=_;rw[show q.map aR++[aR a]=(q++[(a:Int)]).map .int by rw[aQ];rfl,b5h]
    walk_at "ev";rw[ma];walk_at "ev";rw[a9B (k:=key (nx b a)) (kvs:=kvB key iDl V) tM (by walk_at "ev") (by rfl) (K.ok _) (by rw[b7T];lia),b2z K c,<-K5 (W:=V) (c:=(nx b a,q++[(a:Int)])) c];walk_at "ev";rw[BG];unfold kLs;rw[aQ];rfl)
 exact⟨x',y',g1⟩
def b7Z[DecidableEq β](K:KeyB yH key)(hk:k<=5)(h0:P s)(hP:∀b a,P b->a<k->P (nx b a))(hg:∀b,P b->gm [key b]=cz (.list ((aB k).map λ(a:Nat)=>key (nx b a))))
  (hB:∀l:List β,l.Nodup->(∀b∈l,P b)->l.length<=B) (GD:B<=900):∃W:P8 β,P5 gm [key s]=cz (.dict (kvB key iDl W))/\AllB nx k s P W:=by
 have len:∀{dn W:P8 β},MetB nx k s P dn W->W.length<=B:=λ{dn W} h=>by
  have:=hB _ h.nodup λb hb=>by
   obtain⟨e,he,rfl⟩:=aJ.mp hb;exact h.ok e he
  rwa[aj]at this
 unfold P5;rw[c2O (by simp[VS.argsOk,K.im])];unfold a2B;have Eb:=K.ok s;walk_at "ev";rw[c4j (k:=key s) (d:=.list []) (by walk_at "ev") (by walk_at "ev") Eb];walk_at "ev";refine G0 (R:=λr=>∃W:P8 β,r=cz (.dict (kvB key iDl W))/\AllB nx k s P W) (λZ=>∃W x y z u v,Z=[key s,.none,.dict (kvB key iDl W),x,y,z,u,v]/\AllB nx k s P W) ?_ ?_
 ·rw[c0Q];obtain⟨Z',g1,W,x,y,z,u,v,rfl,hA⟩:=a0r (c:=(tV (a6 3))) (g:=(g9 (j8 4 (v6 b9)) (g9 (C6 (iI (iL (a6 3))) (r0 5) (C6 (iI (iEn (eCl gm (a7 (a6 5) b9)))) (a3r 6 7) (sIf (tB (e2 (dIn yn yH) (a6 7) (a6 2))) (g9 (J0 2 yH (a6 7) (eI (U0 (e2 (a6k yH) (a6 2) (a6 5)) (v6 (a7 (a6 6) b9))))) (Q4 4 (.l .i) C3 (a6 7))) G9))) (j8 3 (a6 4)))))
   (I:=λj Z=>∃(dn nw W:P8 β) (y z u v:D),W=dn++nw/\MetB nx k s P dn W/\j<=dn.length/\Z=[key s,.none,.dict (kvB key iDl W),kLs key (nw.map (·.1)),y,z,u,v])
   (Q:=λZ=>∃W x y z u v,Z=[key s,.none,.dict (kvB key iDl W),x,y,z,u,v]/\AllB nx k s P W) 900 (by
    rintro j Z ⟨dn,nw,W,y,z,u,v,hW,hM,hj,rfl⟩;have Gx:=len hM;have EB:dn.length<=W.length:=by rw[hW,az];lia
    refine⟨by lia,?_⟩;cases nw with
    |nil=>
     rw[bj]at hW;rw[<-hW]at hM;exact .inl ⟨by walk_at "ev";rfl,W,_,_,_,_,_,rfl,hM.all⟩
    |cons e0 nw=>
     refine .inr ⟨by walk_at "ev";rfl,?_⟩;obtain⟨Z',g1,V,z',u',v',rfl,hV,vb⟩:=z7 (enc:=λ(e:β×List Int)=>key e.1) (set:=r0 5) (xs:=e0::nw) (g:=(C6 (iI (iEn (eCl gm (a7 (a6 5) b9)))) (a3r 6 7) (sIf (tB (e2 (dIn yn yH) (a6 7) (a6 2))) (g9 (J0 2 yH (a6 7) (eI (U0 (e2 (a6k yH) (a6 2) (a6 5)) (v6 (a7 (a6 6) b9))))) (Q4 4 (.l .i) C3 (a6 7))) G9)))
      (Z:=[key s,.none,.dict (kvB key iDl W),kLs key ((e0::nw).map (·.1)),.list [],z,u,v])
      (λpre Z=>∃(V:P8 β) (z u v:D),Z=[key s,.none,.dict (kvB key iDl V),kLs key ((e0::nw).map (·.1)),kLs key ((V.drop W.length).map (·.1)),z,u,v]/\(∃E,V=W++E)/\MetB nx k s P (dn++pre) V)
      ⟨W,z,u,v,by rw[iY];rfl,⟨[],by rw[bj]⟩,by rw[bj];exact hM⟩ (by
       rintro pre e post he Z ⟨V,z,u,v,rfl,⟨E,hE⟩,vb⟩;obtain⟨b,q⟩:=e;have Bq:(b,q)∈W:=by rw[hW,he];simp
       have Br:(b,q)∈V:=by rw[hE];exact ao _ Bq
       have hs:P b:=hM.ok _ Bq;have Gy:=len vb;have xO:q.length<=1000:=by
        have Bs:q.length<=V.length:=vb.qlen Br;lia
       have mS:MetB nx k s P ((dn++pre)++[(b,q)]) (dd V (P1 nx k (b,q))):=vb.step hP (nw:=post++E) (by rw[hE,hW,he];simp);obtain⟨x',y',g⟩:=b5B K (gm:=gm) (nx:=nx) hk Br vb.nodup (L:=W.length) (by rw[hE,az];lia) (by lia) xO (key s) (kLs key ((e0::nw).map (·.1))) u v;refine⟨_,_,rfl,?_,dd V (P1 nx k (b,q)),key b,x',y',rfl,?_,by rw[<-aV];exact mS⟩
       ·have Eo:=hg b hs;walk_at "ev";rw[a1T (ds:=(aB k).map λ(a:Nat)=>dw [.int (a:Int),key (nx b a)]) (by rw[c0S (ds:=(aB k).map λ(a:Nat)=>key (nx b a)) (by walk_at "ev";exact Eo),a1v]) (m7 _ (λj=>by simp only[imm,g6,K.im,eN]) _)];walk_at "ev";exact g
       ·obtain⟨E2,E_⟩:=a4j V (P1 nx k (b,q));exact⟨E++E2,by rw[E_,hE,aV]⟩)
     obtain⟨E,hE⟩:=hV;refine⟨[key s,.none,.dict (kvB key iDl V),kLs key (E.map (·.1)),kLs key ((V.drop W.length).map (·.1)),z',u',v'],?_,dn++(e0::nw),E,V,_,_,_,_,by rw[hE,hW],vb,?_,rfl⟩
     ·walk_at "ev";rw[a1T (ds:=(e0::nw).map λe=>key e.1) (by walk_at "ev";rw[bD];rfl) (m7 _ (λ_=>K.im _) _)];walk_at "ev";refine b4M (λZ=>Z=[key s,.none,.dict (kvB key iDl V),kLs key ((e0::nw).map (·.1)),kLs key ((V.drop W.length).map (·.1)),z',u',v']) ⟨_,g1,rfl⟩ ?_;rintro Z rfl;walk_at "ev";rw[hE,List.drop_left]
     ·rw[az,aY];lia) 1000000 0 [key s,.none,.dict [(key s,.list [])],.list [key s],.none,.none,.none,.none] ⟨[],WB s,WB s,_,_,_,_,rfl,c2N h0,aA _,rfl⟩ (by lia)
  exact⟨_,g1,W,x,y,z,u,v,rfl,hA⟩
 ·rintro Z ⟨W,x,y,z,u,v,rfl,hA⟩;walk_at "ev";exact⟨W,rfl,hA⟩
def a4p(z:α)(f:α->β)(l:List α):l.map f=(aB l.length).map λ(a:Nat)=>f (l.getD a z):=by
 refine iX (by simp) λi h1 h2=>?_
 have hi:i<l.length:=by simpa using h1
 simp[ah,ag hi]
def b5C:KeyB yH (λi:Int=>aR i):=⟨λa b=>a2T,λ_=>dKey_i,λ_=>U3⟩
def AllMet.of(w:WF m k)(h:AllB (λs (a:Nat)=>(stp m s a).2) k 0 (λs=>0<=s/\s<(m.length:Int)) W):AllMet m k W:=⟨h.eq,h.sor,h.ok,h.ql⟩
def b0Q(w:WF m k):∃W:a0X,t6 [.list (m.map rwD)]=cz (.dict (kvD iDl W))/\AllMet m k W:=by
 have hle:=w.le;have wq:=w.k5;have oP:=w.pos;unfold t6;rw[B9 (by simp[VS.argsOk])];unfold V9;walk_at "ev";rw[c2P (ds:=[.int 0]) (by walk_at "ev")];obtain⟨W,h,hA⟩:=b7Z (key:=λi:Int=>aR i) b5C (gm:=fnE [.i] ([0].map λj=>([.list (m.map rwD)]:List D).getD j .none) ((o8 (iI (iL (e2 dIx (a6 1) (a6 0)))) [] pt1 tT (e2 u6 (a6 0) (eC (.int 1)))))) (nx:=λs (a:Nat)=>(stp m s a).2) (k:=k) (by lia) (s:=0) (P:=λs=>0<=s/\s<(m.length:Int)) ⟨xw _,by lia⟩
  (λb a hb ha=>w.nx hb.1 hb.2 (a:=a) (by lia) (by lia))
  (λb hb=>by
   rw[c2Q (by simp[VS.argsOk,imm])];have zc:=w.row hb.1 hb.2;show ((o8 (iI (iL (e2 dIx (a6 1) (a6 0)))) [] pt1 tT (e2 u6 (a6 0) (eC (.int 1))))) [.int b,.list (m.map rwD)]=_;rw[P6 (enc:=stD) (xs:=rowAt m b) (λp=>aR p.2) (a1T (by walk_at "ev";rw[a2L hb.1 hb.2];rfl) (m7 _ (λ_=>a1V) _)) (by lia) (λp _=>⟨[stD p],rfl,by unfold stD;walk_at "ev"⟩),<-zc,a4p (0,0) (λp:Int×Int=>aR p.2) (rowAt m b)];rfl) (B:=m.length) (λl hn hl=>nodup_range hn hl) (by lia)
 refine⟨W,?_,AllMet.of w hA⟩;rw[h];rfl
def a9H(w:WF m k):∃W:a0X,a0o [.list (m.map rwD)]=cz (iD (W.map (·.1)))/\AllMet m k W:=by
 obtain⟨W,h,hA⟩:=b0Q w;refine⟨W,?_,hA⟩;unfold a0o;rw[B9 (by simp[VS.argsOk])];unfold a5A;walk_at "ev";rw[b7R (W:=W) (enc:=iDl) (by walk_at "ev";exact h)];walk_at "ev"
def at_list{ds:List D}{i:Int}{d:D}(h0:0<=i)(h:ds[i.toNat]?=cz d):L2.atI ds i=cz d:=by
 have hl:=(aO.mp h).1;unfold L2.atI;rw[c0K h0 (by lia)];exact h
def b2B{ns:List D}(g:Int->Int)(hn:∀p∈r,0<=p.2/\ns[p.2.toNat]?=cz (.int (g p.2)))(hl:r.length<=1000):j9 [rwD r,.list ns]=cz (rwD (r.map λp=>(p.1,g p.2))):=by
 unfold j9;rw[B9 (by simp[VS.argsOk])];unfold U8;rw[b0b,a3W (ds:=r.map stD) (λd=>match d with|.tuple [.int a,.int b]=>stD (a,g b)|_=>.none)]
 ·rw[bD];show cz (cF (r.map _))=_;unfold rwD;rw[bD];rfl
 ·exact a1T (by unfold rwD;walk_at "ev") (m7 _ (λ_=>a1V) r)
 ·rw[aj];lia
 ·intro d hd;obtain⟨p,hp,rfl⟩:=aJ.mp hd;have:=hn p hp;refine⟨[.int p.1,.int p.2],rfl,?_⟩;show T8 _ [.int p.1,.int p.2,.list ns]=cz (stD (p.1,g p.2));walk_at "ev";rw[at_list this.1 this.2];walk_at "ev";rfl
abbrev cN(m:j5)(N:Nat):Int->Int:=λs=>(lvl m N).getD s.toNat 0
def b2C{m:j5}(hr:∀s∈r,0<=s/\s<(m.length:Int))(hl:r.length<=1000):x9 [iD r,iD (lvl m N)]=cz (iD (fs (cN m N) r)):=by
 have DY:=V0 m N;unfold x9;rw[B9 (by simp[VS.argsOk])];unfold O8;walk_at "ev";rw[a1T (ds:=r.map aR) (by walk_at "ev") (m7 _ (λ_=>U3) _)];walk_at "ev";refine N2 (λZ=>∃x,Z=[iD r,iD (lvl m N),.dict (kvD aR (fc (cN m N) r)),x]) ?_ ?_
 ·obtain⟨Z',g1,x,rfl⟩:=z7 (enc:=aR) (set:=r0 3) (xs:=r) (g:=(b3S (V8 2 yH (e2 u6 (a6 1) (a6 3)) (a6 3)))) (Z:=[iD r,iD (lvl m N),.dict [],.none])
   (λpre Z=>∃x,Z=[iD r,iD (lvl m N),.dict (kvD aR (dd [] (pre.map λs=>(cN m N s,s)))),x]) ⟨_,rfl⟩ (by
    rintro pre s post e Z ⟨x,rfl⟩;have hs:=hr s (by rw[e];simp);have hlen:=a9y (W:=[]) (pre.map λs=>(cN m N s,s));have gn:pre.length<=1000:=by have:=dH eh e;simp at this;lia
    rw[aj,gi]at hlen;refine⟨_,[iD r,iD (lvl m N),.dict (kvD aR (dd [] ((pre++[s]).map λs=>(cN m N s,s)))),.int s],rfl,?_,_,rfl⟩;rw[c2M (k:=.int (cN m N s)) (e:=.int s) (kvs:=kvD aR (dd [] (pre.map λs=>(cN m N s,s)))) (by walk_at "ev";rw[P0 hs.1 (by lia)];walk_at "ev") (by walk_at "ev") (by rfl) dKey_i (by rw[b0L];lia) rfl,b7P (enc:=aR),aQ,cw,P7];rfl)
  exact⟨_,g1,x,rfl⟩
 ·rintro Z ⟨x,rfl⟩;walk_at "ev";rw[b7S (W:=fc (cN m N) r) (by walk_at "ev")];walk_at "ev";rfl
def plc(c:Int->Int)(F:List Int)(j:Nat):List (Int×Int):=(aB j).map λ(i:Nat)=>(c (F.getD i 0),(i:Int))
def b5D(c:Int->Int)(F:List Int)(j:Nat):plc c F (j+1)=plc c F j++[(c (F.getD j 0),(j:Int))]:=by
 unfold plc;rw[jo,aQ];rfl
def V4{l:List Int}(h:l[i]?=cz x):l.getD i 0=x:=by rw[ah,h];rfl
def b5E:(plc c (fs c r) (fs c r).length).map (·.1)=cl c r:=by
 rw[c0W];unfold plc;rw[bD];refine iX (by simp) λi h1 h2=>?_
 have hi:i<(fs c r).length:=by simpa using h1
 simp only[dC,nI,Function.comp];rw[ah,ag hi];rfl
def b5F(w:WF m k):∃(N:Nat) (W:a0X),AllMet m k W/\(∀s t:Int,0<=s->s<m.length->0<=t->t<m.length->lv m N s=lv m N t->lv m (N+1) s=lv m (N+1) t)/\
  N4 [.list (m.map rwD)]=cz (.list ((n8 m (cN m N) (W.map (·.1))).map rwD)):=by
 have hle:=w.le;have wq:=w.k5;obtain⟨N,h1,_,_,hN⟩:=a5G w;obtain⟨W,h2,hA⟩:=a9H w;refine⟨N,W,hA,hN,?_⟩;have R:=hA.rch;have h3:=b2C (m:=m) (N:=N) R.range (by have:=R.len;lia);have DY:=V0 m N;generalize W.map (·.1)=r at h2 R h3;have zc:=R.len;have hfl:=a9E (c:=cN m N) (r:=r);unfold N4;rw[B9 (by simp[VS.argsOk])];unfold b0t;walk_at "ev";rw[h1];walk_at "ev";rw[a6K (f:=λd=>iD (lvl m d))];walk_at "ev";rw[h2];walk_at "ev";rw[h3];walk_at "ev";rw[a1T (ds:=(aB (fs (cN m N) r).length).map λ(s:Nat)=>dw [.int ((0+s:Nat):Int),.int ((fs (cN m N) r).getD s 0)]) (by rw[c0S (ds:=(fs (cN m N) r).map .int) (by rfl),a2E]) (m7 _ (λs=>by simp only[imm,g6,eN]) _)];walk_at "ev";have xX:=Z7 (c:=cN m N) (r:=r);refine N2 (λZ=>∃x y,Z=[.list (m.map rwD),iD (lvl m N),iD (fs (cN m N) r),.dict (kvD aR (plc (cN m N) (fs (cN m N) r) (fs (cN m N) r).length)),x,y,.none]) ?_ ?_
 ·obtain⟨Z',g1,x,y,rfl⟩:=z7 (enc:=λ(s:Nat)=>dw [.int ((0+s:Nat):Int),.int ((fs (cN m N) r).getD s 0)]) (set:=a3r 4 5) (xs:=aB (fs (cN m N) r).length) (g:=(J0 3 yH (e2 u6 (a6 1) (a6 5)) (a6 4)))
   (Z:=[.list (m.map rwD),iD (lvl m N),iD (fs (cN m N) r),.dict [],.none,.none,.none])
   (λpre Z=>∃x y,Z=[.list (m.map rwD),iD (lvl m N),iD (fs (cN m N) r),.dict (kvD aR (plc (cN m N) (fs (cN m N) r) pre.length)),x,y,.none]) ⟨_,_,rfl⟩ (by
    rintro pre j post e Z ⟨x,y,rfl⟩;obtain⟨ej,hj,_⟩:=Y7 e;obtain⟨f,f1,f2,f3⟩:=a1u (c:=cN m N) (r:=r) j hj;have nM:=R.range f f2;have xW:=V4 f1;refine⟨_,[.list (m.map rwD),iD (lvl m N),iD (fs (cN m N) r),.dict (kvD aR (plc (cN m N) (fs (cN m N) r) (pre++[j]).length)),.int ((0+j:Nat):Int),.int ((fs (cN m N) r).getD j 0),.none],rfl,?_,_,_,rfl⟩;have zu:cN m N f∉(plc (cN m N) (fs (cN m N) r) pre.length).map (·.1):=by
     intro ma;obtain⟨q,hq,e2⟩:=aJ.mp ma;obtain⟨i,hi,rfl⟩:=aJ.mp hq;have mT:=bO.mp hi;obtain⟨f',Fg,_,Ca⟩:=a1u (c:=cN m N) (r:=r) i (by lia);rw[V4 Fg]at e2;have e3:cN m N f'=cN m N f:=e2;rw[e3]at Ca;have:i=j:=(iB (by rw[a2f];lia) xX).mp (Ca.trans f3.symm);lia
    rw[a9B (k:=.int (cN m N f)) (d:=.int ((0+j:Nat):Int)) (kvs:=kvD aR (plc (cN m N) (fs (cN m N) r) pre.length)) (by walk_at "ev") (by walk_at "ev";rw[xW,P0 nM.1 (by lia)];walk_at "ev") (by rfl) dKey_i (by rw[b0L];unfold plc;rw[aj,bE];lia),b5n (enc:=aR) (x:=((0+j:Nat):Int)) zu,az,bN,b5D,<-ej,xW,iA];rfl)
  rw[bE]at g1;exact⟨_,g1,x,y,rfl⟩
 ·rintro Z ⟨x,y,rfl⟩;walk_at "ev";have Bt:=b5E (c:=cN m N) (r:=r);have tW:(o8 (iI (iL (a6 1))) [3] pt1 tT (e2 (a3y yH) (a6 1) (a6 0))) [.list (m.map rwD),iD (lvl m N),iD (fs (cN m N) r),.dict (kvD aR (plc (cN m N) (fs (cN m N) r) (fs (cN m N) r).length)),x,y,.none]=cz (.list ((lvl m N).map λz=>if z∈cl (cN m N) r then .int ((cl (cN m N) r).idxOf z:Nat) else .none)):=by
   refine P6 (enc:=aR) (xs:=lvl m N) (λz=>if z∈cl (cN m N) r then .int ((cl (cN m N) r).idxOf z:Nat) else .none) (a1T (by walk_at "ev") (m7 _ (λ_=>U3) _)) (by lia) λz hz=>⟨[.int z],rfl,?_⟩
   show e2 (a3y yH) (a6 1) (a6 0) [.int z,.dict (kvD aR (plc (cN m N) (fs (cN m N) r) (fs (cN m N) r).length))]=_;walk_at "ev";by_cases hc:z∈cl (cN m N) r
   ·rw[aE hc];have hi:=bZ.mpr hc;have mT:(cl (cN m N) r).idxOf z<(fs (cN m N) r).length:=by rw[<-a2f];exact hi
    obtain⟨f,f1,_,f3⟩:=a1u (c:=cN m N) (r:=r) _ mT;refine b7Q (enc:=aR) (x:=((cl (cN m N) r).idxOf z:Nat)) (by rw[Bt];exact xX) (aJ.mpr ⟨(cl (cN m N) r).idxOf z,bO.mpr mT,?_⟩);rw[V4 f1];have h5:=ag hi;rw[dX hi,f3]at h5;rw[aK h5]
   ·rw[aM hc];exact a9A (by rw[Bt];exact hc)
  rw[tW];walk_at "ev";have zQ:(o8 (iI (iL (a6 2))) [0,6] pt1 tT (eCl j9 (a7 (e2 dIx (a6 1) (a6 0)) (a7 (a6 2) b9)))) [.list (m.map rwD),iD (lvl m N),iD (fs (cN m N) r),.dict (kvD aR (plc (cN m N) (fs (cN m N) r) (fs (cN m N) r).length)),x,y,.list ((lvl m N).map λz=>if z∈cl (cN m N) r then .int ((cl (cN m N) r).idxOf z:Nat) else .none)]=cz (.list ((fs (cN m N) r).map λf=>rwD ((rowAt m f).map λp=>(p.1,(pls (cN m N) r p.2:Int))))):=by
   refine P6 (Z:=[.list (m.map rwD),iD (lvl m N),iD (fs (cN m N) r),.dict (kvD aR (plc (cN m N) (fs (cN m N) r) (fs (cN m N) r).length)),x,y,.list ((lvl m N).map λz=>if z∈cl (cN m N) r then aR ((cl (cN m N) r).idxOf z:Nat) else .none)]) (fi:=iI (iL (a6 2))) (js:=[0,6]) (pt:=pt1) (g:=(eCl j9 (a7 (e2 dIx (a6 1) (a6 0)) (a7 (a6 2) b9)))) (enc:=aR) (xs:=fs (cN m N) r) (λf=>rwD ((rowAt m f).map λp=>(p.1,(pls (cN m N) r p.2:Int)))) (a1T (by walk_at "ev") (m7 _ (λ_=>U3) _)) (by lia) λf hf=>⟨[.int f],rfl,?_⟩
   have nM:f∈r:=by
    obtain⟨e,he,rfl⟩:=aJ.mp hf;exact (a0Y he).1
   have oH:=R.range f nM;show eCl j9 _ [.int f,.list (m.map rwD),.list ((lvl m N).map λz=>if z∈cl (cN m N) r then aR ((cl (cN m N) r).idxOf z:Nat) else .none)]=_;walk_at "ev";rw[a2L oH.1 oH.2];walk_at "ev";refine b2B (λs=>(pls (cN m N) r s:Int)) (λp hp=>?_) (by rw[w.row oH.1 oH.2];lia);obtain⟨j,hj⟩:=cZ.mp hp;have rM:=(aO.mp hj).1;rw[w.row oH.1 oH.2]at rM;have hs:stp m f (j:Nat)=p:=by
    unfold stp;rw[bS,ah,hj];rfl
   have h6:=R.next nM (a:=(j:Nat)) (by lia) (by lia);rw[hs]at h6;have h7:=R.range _ h6;refine⟨h7.1,?_⟩;rw[a_,ag (by lia)];have h8:(lvl m N)[p.2.toNat]'(by lia)=cN m N p.2:=by
    show _=(lvl m N).getD p.2.toNat 0;rw[ah,ag (by lia)];rfl
   show cz (if (lvl m N)[p.2.toNat]'(by lia)∈cl (cN m N) r then aR ((cl (cN m N) r).idxOf ((lvl m N)[p.2.toNat]'(by lia)):Nat) else .none)=_;rw[h8,aE (a2e h6)];rfl
  rw[zQ];walk_at "ev";unfold n8;rw[bD];rfl
end Prog
namespace VS
open L2
def nxs(L:j5)(k:Nat)(i:Nat):List Int:=(aB k).map λ(a:Nat)=>(stp L (i:Nat) a).2
def ofR(c:Nat):List Int:=(aB c).map λ(i:Nat)=>(i:Int)
def Sim(k:Nat)(L M:j5)(i j:Int):Prop:=∀p:List Int,(∀a∈p,0<=a/\a<(k:Int))->(m5 L i p).1=(m5 M j p).1
structure Can (L:j5) (k:Nat):Prop where
 wf:WF L k
 all:dkk [0] ((aB L.length).flatMap (nxs L k))=ofR L.length
 lead:∀j,j<L.length->j<(dkk [0] ((aB j).flatMap (nxs L k))).length
 apart:∀i j:Nat,i<L.length->j<L.length->Sim k L L i j->i=j
def Sim.step{k:Nat}{L M:j5}{i j:Int}(h:Sim k L M i j){a:Int}(h0:0<=a)(h1:a<k):(stp L i a).1=(stp M j a).1/\Sim k L M (stp L i a).2 (stp M j a).2:=by
 constructor
 ·have:=h [a] (λb hb=>by rw[ar.mp hb];exact⟨h0,h1⟩);simpa[m5]using this
 ·intro p hp;have:=h (a::p) (λb hb=>by
   rcases aG.mp hb with z|z
   ·rw[z];exact⟨h0,h1⟩
   ·exact hp b z)
  simp only[m5]at this;exact (so this).2
def b8a:x∈ofR c↔0<=x/\x<(c:Int):=by
 unfold ofR;rw[aJ]
 constructor
 ·rintro⟨i,hi,rfl⟩;have:=bO.mp hi;lia
 ·rintro⟨h0,h1⟩;exact⟨x.toNat,bO.mpr (by lia),by lia⟩
def b0R(c:Nat):(ofR c).length=c:=by unfold ofR;simp
def b5G(c j:Nat)(h:j<=c):(ofR c).take j=ofR j:=by
 unfold ofR;rw[<-List.map_take,qf,lC h]
def b8b(h:j<c):(ofR c)[j]?=cz (j:Int):=by
 unfold ofR;rw[a_,fP h];rfl
def Can.pre(C:Can L k)(h:(aB L.length).flatMap (nxs L k)=Zq++Y):dkk [0] Zq=ofR (dkk [0] Zq).length:=by
 have h1:=C.all;rw[h,V3]at h1;obtain⟨E,e⟩:=a2W (dkk [0] Zq) Y;rw[e]at h1;have h2:=dH eh h1;rw[az,b0R]at h2;have h3:=dH (List.take (dkk [0] Zq).length) h1;rw[List.take_left,b5G _ _ (by lia)]at h3;exact h3
def b2D(h:j<n):aB n=aB j++j::(aB (n-j-1)).map (λi=>j+1+i):=by
 have:n=j+(1+(n-j-1)):=by lia
 conv=>lhs;rw[this]
 rw[List.range_add,List.range_add,aQ]
 congr 1;show _=[j]++_
 congr 1;rw[bD];refine bK λi _=>?_
 show j+(1+i)=j+1+i;lia
def b5H(K:List Int):∀(L:List Int),(∀x∈K++L,∀y∈K++L,f x=f y->x=y)->dkk (K.map f) (L.map f)=(dkk K L).map f:=by
 intro L
 induction L using snoc_ind with
 |h0=>intro _;rfl
 |h1 L x ih=>
  intro h;have ih:=ih λa ha b hb=>h a (by rw[<-aV];exact ao _ ha) b (by rw[<-aV];exact ao _ hb)
  rw[aQ,cw,C9,C9,ih];by_cases c:x∈dkk K L
  ·rw[V1 c,V1 (de c)]
  ·have hn:f x∉(dkk K L).map f:=λhm=>by
    obtain⟨y,hy,e⟩:=aJ.mp hm;have Dm:y∈K++(L++[x]):=by
     rcases (N6 K L).mp hy with z|z
     ·exact ao _ z
     ·exact ai _ (ao _ z)
    have:=h y Dm x (by simp) e;exact c (this▸hy)
   rw[V2 c,V2 hn,aQ];rfl
section
variable {m:j5}{k:Nat}{c:Int->Int}{r:List Int}
def b2E(w:WF m k)(jj:∀s:Int,0<=s->s<m.length->(rowAt m s).length=k)(R:Rch m k r){i:Nat}{f:Int}(h:(fs c r)[i]?=cz f)(hf:f∈r):nxs (n8 m c r) k i=(csu m k c f).map λx=>((cl c r).idxOf x:Int):=by
 unfold nxs csu;rw[bD];refine bK λa ha=>?_
 have hr:=R.range f hf;have:=bO.mp ha;rw[a4n w jj h hr.1 hr.2 (by lia) (by lia)];rfl
theorem a4q(w:WF m k)(jj:∀s:Int,0<=s->s<m.length->(rowAt m s).length=k)(R:Rch m k r):∀j,j<=(fs c r).length->(aB j).flatMap (nxs (n8 m c r) k)=(((fs c r).take j).flatMap (csu m k c)).map λx=>((cl c r).idxOf x:Int)
 |0,_=>by simp
 |j+1,h=>by
  obtain⟨f,f1,f2,f3⟩:=a1u (c:=c) (r:=r) j (by lia);rw[jo,eD,a4q w jj R j (by lia),Cr,f1,eD,aQ]
  congr 1;show [j].flatMap _=([f].flatMap _).map _;rw[fL,iW,bj,fL,iW,bj,b2E w jj R f1 f2]
def b2F(w:WF m k)(jj:∀s:Int,0<=s->s<m.length->(rowAt m s).length=k)(C:a6L m k c)(R:Rch m k r)(rS:∀i j:Nat,i<(n8 m c r).length->j<(n8 m c r).length->Sim k (n8 m c r) (n8 m c r) i j->i=j):Can (n8 m c r) k:=by
 have hL:(n8 m c r).length=(fs c r).length:=K2;have hz:=a8c (c:=c) R;have sC:([0]:List Int)=[c 0].map λx=>((cl c r).idxOf x:Int):=by
  show [(0:Int)]=[((pls c r 0:Nat):Int)];rw[hz];rfl
 have iK:∀j,∀x∈[c 0]++((fs c r).take j).flatMap (csu m k c),x∈cl c r:=λj x hx=>by
  rw[a6M C R];refine (N6 _ _).mpr ?_;rcases av.mp hx with z|z
  ·exact .inl z
  ·obtain⟨f,hf,hx⟩:=cO.mp z;exact .inr (cO.mpr ⟨f,List.mem_of_mem_take hf,hx⟩)
 have hd:∀j,j<=(fs c r).length->dkk [0] ((aB j).flatMap (nxs (n8 m c r) k))=(dkk [c 0] (((fs c r).take j).flatMap (csu m k c))).map λx=>((cl c r).idxOf x:Int):=λj hj=>by
  rw[a4q w jj R j hj,sC];exact b5H _ _ λx hx y hy e=>b5y (iK j x hx) (iK j y hy) (by lia)
 refine⟨a2g w R,?_,λj hj=>?_,rS⟩
 ·rw[hL,hd _ (aA _),oY,<-a6M C R];refine iX (by rw[aj,b0R,a2f]) λi i1 i2=>?_
  have hi:i<(cl c r).length:=by simpa using i1
  rw[dC];have h2:=b8b (c:=(fs c r).length) (j:=i) (by rw[<-a2f];exact hi);rw[ag i2]at h2;rw[aK h2];have hj:(cl c r).idxOf (cl c r)[i]<(cl c r).length:=bZ.mpr (dB hi);have h3:(cl c r)[(cl c r).idxOf (cl c r)[i]]?=(cl c r)[i]?:=by rw[ag hj,dX hj,ag hi]
  have:=(iB hj Z7).mp h3;lia
 ·rw[hL]at hj;rw[hd j (by lia),aj];exact b7Y C R hj
end
end VS
namespace Prog
open L2 VS
def b8c(w:WF m k)(hN:∀s t:Int,0<=s->s<m.length->0<=t->t<m.length->lv m N s=lv m N t->lv m (N+1) s=lv m (N+1) t):a6L m k (cN m N):=by
 intro s t s0 s1 t0 t1 e a a0 a1;have h:=(N5 w s0 s1 t0 t1).mp (hN s t s0 s1 t0 t1 e);exact h a a0 a1
theorem b5I{L:j5}{k:Nat}(w:WF L k):∀(d:Nat) {i j:Int},0<=i->i<L.length->0<=j->j<L.length->Sim k L L i j->lv L d i=lv L d j
 |0,i,j,_,_,_,_,_=>by rw[A1,A1]
 |d+1,i,j,i0,i1,j0,j1,h=>by
  refine (N5 w i0 i1 j0 j1).mpr λa a0 a1=>?_
  obtain⟨h1,h2⟩:=h.step a0 a1;have n1:=w.nx i0 i1 a0 a1;have n2:=w.nx j0 j1 a0 a1;exact⟨h1,b5I w d n1.1 n1.2 n2.1 n2.2 h2⟩
theorem a2G{m:j5}{k:Nat}(w:WF m k){c:Int->Int}{r:List Int}(C:a6L m k c)(R:Rch m k r):∀(d:Nat) {s t:Int},s∈r->t∈r->lv (n8 m c r) d (pls c r s:Int)=lv (n8 m c r) d (pls c r t:Int)->lv m d s=lv m d t
 |0,s,t,_,_,_=>by rw[A1,A1]
 |d+1,s,t,hs,ht,h=>by
  have wL:=a2g (c:=c) w R;have jj:∀s:Int,0<=s->s<m.length->(rowAt m s).length=k:=λs h0 h1=>w.row h0 h1
  have s1:=R.range s hs;have t1:=R.range t ht;have p1:=a4m (c:=c) hs;have p2:=a4m (c:=c) ht;rw[<-K2 (m:=m)]at p1 p2;refine (N5 w s1.1 s1.2 t1.1 t1.2).mpr λa a0 a1=>?_
  obtain⟨h1,h2⟩:=(N5 wL (by lia) (by lia) (by lia) (by lia)).mp h a a0 a1;rw[Z8 w jj C R hs a0 a1,Z8 w jj C R ht a0 a1]at h1 h2;exact⟨h1,a2G w C R d (R.next hs a0 a1) (R.next ht a0 a1) h2⟩
def b2G(w:WF m k):∃L:j5,N4 [.list (m.map rwD)]=cz (.list (L.map rwD))/\Can L k/\Sim k L m 0 0/\L.length<=m.length:=by
 obtain⟨N,W,hA,hN,zC⟩:=b5F w;have R:=hA.rch;have hC:=b8c w hN;have wL:=a2g (c:=cN m N) w R;have jj:∀s:Int,0<=s->s<m.length->(rowAt m s).length=k:=λs h0 h1=>w.row h0 h1
 have hlen:(n8 m (cN m N) (W.map (·.1))).length=(fs (cN m N) (W.map (·.1))).length:=K2;refine⟨_,zC,b2F w jj hC R λi j hi hj hs=>?_,λp hp=>?_,?_⟩
 ·obtain⟨f,f1,f2,f3⟩:=a1u (c:=cN m N) (r:=W.map (·.1)) i (by lia);obtain⟨g,g1,g2,g3⟩:=a1u (c:=cN m N) (r:=W.map (·.1)) j (by lia);have e2:lv (n8 m (cN m N) (W.map (·.1))) N (pls (cN m N) (W.map (·.1)) f:Int)=lv (n8 m (cN m N) (W.map (·.1))) N (pls (cN m N) (W.map (·.1)) g:Int):=by
   rw[b5A f1,b5A g1];exact b5I wL N (by lia) (by lia) (by lia) (by lia) hs
  have e4:cN m N f=cN m N g:=a2G w hC R N f2 g2 e2;rw[e4]at f3;exact (iB (by rw[a2f];lia) Z7).mp (f3.trans g3.symm)
 ·have:=a2F w jj hC R p R.zero hp;rw[a8c R,show ((0:Nat):Int)=0 from rfl]at this;rw[this]
 ·rw[hlen];have h1:(fs (cN m N) (W.map (·.1))).length<=(W.map (·.1)).length:=a9E;have h2:=R.len;lia
end Prog
namespace VS
open L2
def wyD(W:a0X)(s:Nat):D:=(v5 (kvD (λns:List Int=>cF (ns.map .int)) W) (.int s)).getD .none
def c0Y{W:a0X}(hn:(W.map (·.1)).Nodup){s:Nat}{p:List Int}(h:((s:Int),p)∈W):wyD W s=.list (p.map .int):=by
 unfold wyD;rw[b0N hn h];rfl
def b5J(W:a0X)(n:Nat):List D:=(aB n).map (wyD W)
end VS
namespace Prog
open L2 VS
def b5K(w:WF m k)(h:t6 [.list (m.map rwD)]=cz (.dict (kvD iDl W))):a0W [.list (m.map rwD)]=cz (.list (b5J W m.length)):=by
 have hle:=w.le;unfold a0W;rw[B9 (by simp[VS.argsOk])];unfold b4W;walk_at "ev";rw[h];walk_at "ev";have hd:a6q 1 (eCl J8 (a7 (a6 0) b9)) [.list (m.map rwD),.dict (kvD iDl W)]=cz (.list (b5J W m.length)):=by
  unfold a6q;have h1:eCl J8 (a7 (a6 0) b9) [.list (m.map rwD),.dict (kvD iDl W)]=cz (.int m.length):=by walk_at "ev"
  rw[h1];show (if 0<=(m.length:Int)/\(m.length:Int)<=1000000 then cz (cF ((l8 0 (m.length:Int).toNat).map λk=>(v5 (kvD iDl W) k).getD .none)) else xn)=_;rw[aE ⟨by lia,by lia⟩,bS,a5x,bD];rfl
 rw[hd];walk_at "ev"
def b8d(w:WF m k):∃W:a0X,AllMet m k W/\a0W [.list (m.map rwD)]=cz (.list (b5J W m.length)):=by
 obtain⟨W,h,hA⟩:=b0Q w;exact⟨W,hA,b5K w h⟩
abbrev GA:=List (List Int×List Int)
def E7(a:List Int):D:=.tuple (a.map .int)
def a8d(a b:List Int):aI (E7 a) (E7 b)=decide (a=b):=by
 unfold E7;simp only[aI];exact a3X a b
theorem a2H:∀a:List Int,o7 (a.map aR)=yn
 |[]=>by simp only[cW,o7]
 |n::a=>by simp only[ay,o7,C5,a2H a,eN]
def a9I(a:List Int):(E7 a).depth<=7:=by
 unfold E7;simp only[eL];have:=N9 aR 0 (λ_=>by rw[a1U];exact aA _) a;lia
def b2H(a:List Int):C5 (E7 a)=yn:=by
 unfold E7;simp only[C5];exact a2H a
def b2I(a:List Int):q8 yn (E7 a)=yn:=by
 unfold q8;rw[b2H,aL (a9I a)];rfl
def dKey_i(e:Int):q8 yH (.int e)=yn:=by
 unfold q8;rw[show C5 (.int e)=yn by simp only[C5],show (aR e).depth=0 from a1U];rfl
structure DdOk (f:Int->List Int×Int) (ss:List Int) (dd:GA):Prop where
 nd:(dd.map (·.1)).Nodup
 keys:∀a,a∈dd.map (·.1)↔∃s∈ss,(f s).1=a
 mem:∀q∈dd,∀e,e∈q.2↔∃s∈ss,f s=(q.1,e)
 nd2:∀q∈dd,q.2.Nodup
 len:dd.length<=ss.length
 b7l:∀q∈dd,q.2.length<=ss.length
theorem a4r:∀as:List (List Int),b0j yn (as.map E7)=cz as
 |[]=>rfl
 |a::as=>by
  have h:intsOf (a.map aR)=cz a:=by
   induction a with
   |nil=>rfl
   |cons n a ih=>rw[ay];show (intsOf (a.map aR)).map (n::·)=_;rw[ih];rfl
  rw[ay];show (intsOf (a.map aR)).bind _=_;rw[h,fq,a4r as];rfl
end Prog
namespace VS
open L2
def c2R{Z:List D}(hf:f Z=cz (.int n))(h:Z.getD i .none=.int k):b3V i f Z=cz (.nx (Z.set i (.int (k+n)))):=by
 unfold b3V;rw[hf,h];rfl
def mny(m:j5)(D:Nat)(s t:Int):Nat:=(aB (D+1)).countP λd=>decide (lv m d s=lv m d t)
def W3(m:j5)(D:Nat)(s t:Int):br:=if mny m D s t=D+1 then .none else .list ((fu m (mny m D s t) s t).map .int)
def a4s{m:j5}{k:Nat}(w:WF m k)(D:Nat){s t:Int}(h0:0<=s)(h1:s<m.length)(h2:0<=t)(h3:t<m.length):1<=mny m D s t/\mny m D s t<=D+1/\(∀d<mny m D s t,lv m d s=lv m d t)/\∀d,mny m D s t<=d->d<=D->lv m d s≠lv m d t:=by
 obtain⟨c,e,c1,c2,c3⟩:=a4h (p:=λd=>decide (lv m d s=lv m d t)) (λd hd=>aL (a6E w d h0 h1 h2 h3 (bB hd))) (D+1);have e':mny m D s t=c:=e;rw[e'];refine⟨?_,c1,λd hd=>bB (c2 d hd),λd hd ke=>jH (c3 d hd (by lia))⟩;rcases dD 0 c with z|z
 ·exact z
 ·have:=jH (c3 0 (by lia) (by lia));exact absurd (by rw[A1,A1]) this
end VS
namespace Prog
open L2 VS
def a9J{r r':Ky}(hl:r.length=r'.length)(jg:r≠r')(h5:r.length<=1000):t7 [rwD r,rwD r']=cz (.int (fp r r':Nat)):=by
 unfold t7;rw[B9 (by simp[VS.argsOk])];unfold W1;walk_at "ev";rw[c0Q];obtain⟨f1,f2,f3⟩:=a6F hl jg;obtain⟨Z',h1,rfl⟩:=a0r (c:=tB (e2 dEq (e2 u6 (a6 0) (a6 2)) (e2 u6 (a6 1) (a6 2)))) (g:=b3V 2 (eC (.int 1)))
  (I:=λj Z=>Z=[rwD r,rwD r',.int (j:Nat)]/\j<=fp r r') (Q:=λZ=>Z=[rwD r,rwD r',.int (fp r r':Nat)]) 1000
  (by
   rintro j Z ⟨rfl,hj⟩;refine⟨by lia,?_⟩;have hc:tB (e2 dEq (e2 u6 (a6 0) (a6 2)) (e2 u6 (a6 1) (a6 2))) [rwD r,rwD r',.int (j:Nat)]=cz (decide (r.getD j (0,0)=r'.getD j (0,0))):=by
    walk_at "ev";rw[b2s (by lia) (by lia),b2s (by lia) (by lia)];walk_at "ev";rw[c0R];walk_at "ev";rw[bS]
   rw[hc];rcases dD j (fp r r') with z|z
   ·refine .inr ⟨by rw[aL (f3 j z)],[rwD r,rwD r',.int ((j+1:Nat):Int)],?_,rfl,z⟩;rw[c2R (n:=1) (k:=(j:Nat)) rfl rfl];rfl
   ·have e:j=fp r r':=by lia
    subst e;exact .inl ⟨by rw[aW f2],rfl⟩) 1000000 0 [rwD r,rwD r',.int 0] ⟨rfl,cG _⟩ (by lia)
 rw[h1];walk_at "ev"
theorem a2I(w:WF m k)(uQ mn:D):∀(c:Nat) (s t:Int) (p:List Int) (x y:D),0<=s->s<m.length->0<=t->t<m.length->(c≠0->lv m c s≠lv m c t)->lv m (c-1) s=lv m (c-1) t->p.length+c<1000000->
  ∃s' t' x' y',W4 (r0 6) (g9 (j8 7 (eCl t7 (a7 (eCl j9 (a7 (e2 dIx (a6 0) (a6 2)) (a7 (a6 6) b9))) (a7 (eCl j9 (a7 (e2 dIx (a6 0) (a6 3)) (a7 (a6 6) b9))) b9)))) (g9 (Q4 5 (.l .i) C3 (a6 7)) (g9 (j8 2 (e2 u6 (e2 u6 (e2 dIx (a6 0) (a6 2)) (a6 7)) (eC (.int 1)))) (j8 3 (e2 u6 (e2 u6 (e2 dIx (a6 0) (a6 3)) (a6 7)) (eC (.int 1)))))))
   ((aB c).map λd=>iD (lvl m d)).reverse [.list (m.map rwD),uQ,.int s,.int t,mn,iD p,x,y]=cz (.nx [.list (m.map rwD),uQ,.int s',.int t',mn,iD (p++fu m c s t),x',y'])
 |0,s,t,p,x,y,_,_,_,_,_,_,_=>by
  refine⟨s,t,x,y,?_⟩;show cz _=cz _;rw[show fu m 0 s t=[] from rfl,bj]
 |c+1,s,t,p,x,y,h0,h1,h2,h3,jg,heq,hlen=>by
  rw[jo,aQ,List.reverse_append];have v_:=jg (by lia);obtain⟨⟨a0,a1⟩,f2,_⟩:=b0D w h0 h1 h2 h3 v_;have n1:=w.nx h0 h1 a0 a1;have n2:=w.nx h2 h3 a0 a1;have l1:=w.row h0 h1;have l2:=w.row h2 h3;have wq:=w.k5;have Bv:c≠0->lv m c (stp m s (fa m c s t)).2≠lv m c (stp m t (fa m c s t)).2:=λhc=>by
   obtain⟨c',rfl⟩:∃c',c=c'+1:=⟨c-1,by lia⟩;have:=(N5 w h0 h1 h2 h3).mp heq _ a0 a1;exact f2.resolve_left (λz=>z this.1)
  have DL:lv m (c-1) (stp m s (fa m c s t)).2=lv m (c-1) (stp m t (fa m c s t)).2:=by
   cases c with
   |zero=>rw[A1,A1]
   |succ c'=>exact ((N5 w h0 h1 h2 h3).mp heq _ a0 a1).2
  obtain⟨s',t',x',y',ih⟩:=a2I w uQ mn c (stp m s (fa m c s t)).2 (stp m t (fa m c s t)).2 (p++[fa m c s t]) (iD (lvl m c)) (.int (fa m c s t)) n1.1 n1.2 n2.1 n2.2 Bv DL (by rw[az];simp only[bN];lia);refine⟨s',t',x',y',?_⟩;show (r0 6 _ (iD (lvl m c))).bind _=_;show Option.bind (g9 _ _ [.list (m.map rwD),uQ,.int s,.int t,mn,iD p,iD (lvl m c),y]) _=_;have hb:g9 (j8 7 (eCl t7 (a7 (eCl j9 (a7 (e2 dIx (a6 0) (a6 2)) (a7 (a6 6) b9))) (a7 (eCl j9 (a7 (e2 dIx (a6 0) (a6 3)) (a7 (a6 6) b9))) b9)))) (g9 (Q4 5 (.l .i) C3 (a6 7)) (g9 (j8 2 (e2 u6 (e2 u6 (e2 dIx (a6 0) (a6 2)) (a6 7)) (eC (.int 1)))) (j8 3 (e2 u6 (e2 u6 (e2 dIx (a6 0) (a6 3)) (a6 7)) (eC (.int 1)))))) [.list (m.map rwD),uQ,.int s,.int t,mn,iD p,iD (lvl m c),y]
    = cz (.nx [.list (m.map rwD),uQ,.int (stp m s (fa m c s t)).2,.int (stp m t (fa m c s t)).2,mn,iD (p++[fa m c s t]),iD (lvl m c),.int (fa m c s t)]):=by
   walk_at "ev";rw[a2L h0 h1,a2L h2 h3];walk_at "ev";rw[Q8 (λq hq=>by rw[V0];exact w.next _ (K1 h0 h1) q hq) (by lia),Q8 (λq hq=>by rw[V0];exact w.next _ (K1 h2 h3) q hq) (by lia)];walk_at "ev";rw[a9J (by rw[a2c,a2c,l1,l2]) (λe=>v_ ((a6D h0 h1 h2 h3).mpr e)) (by rw[a2c,l1];lia)];walk_at "ev";unfold iD;rw[a0L (by rw[aj];lia)];walk_at "ev";have xq:fa m c s t<((rowAt m s).length:Int):=by rw[l1];exact a1
   have Cn:fa m c s t<((rowAt m t).length:Int):=by rw[l2];exact a1
   unfold fa at a0 xq Cn;rw[a2L h0 h1];walk_at "ev";rw[b2s a0 xq];walk_at "ev";rw[a2L h2 h3];walk_at "ev";rw[b2s a0 Cn];walk_at "ev";rw[aQ];rfl
  rw[hb];have Bf:=ih;rw[aV]at Bf;exact Bf
def b2J{m:j5}{k:Nat}(w:WF m k){D:Nat}(hD:D<=1000){s t:Int}(h0:0<=s)(h1:s<m.length)(h2:0<=t)(h3:t<m.length):B0 [.list (m.map rwD),.list ((aB (D+1)).map λd=>iD (lvl m d)),.int s,.int t]=cz (W3 m D s t):=by
 unfold B0;rw[B9 (by simp[VS.argsOk,imm])];unfold Z3;obtain⟨c1,c2,c3,c4⟩:=a4s w D h0 h1 h2 h3;have hc:e2 a3z (o8 (iL (a6 1)) [2,3] pt1 tT (e2 dEq (e2 u6 (a6 0) (a6 1)) (e2 u6 (a6 0) (a6 2)))) (eC (.bool yn)) [.list (m.map rwD),.list ((aB (D+1)).map λd=>iD (lvl m d)),.int s,.int t,.none,.none,.none,.none]=cz (.int (mny m D s t)):=by
  rw[v_2,P6 (enc:=λd=>iD (lvl m d)) (xs:=aB (D+1)) (λd=>.bool (decide (lv m d s=lv m d t)))]
  ·have e:(aB (D+1)).map (λd=>cK (decide (lv m d s=lv m d t)))=((aB (D+1)).map λd=>decide (lv m d s=lv m d t)).map cK:=by rw[bD];rfl
   rw[e,v_c,b9z,v_count,GW];rfl
  ·walk_at "ev"
  ·rw[bE];lia
  ·intro d hd;refine⟨[iD (lvl m d)],rfl,?_⟩;show e2 dEq _ _ [iD (lvl m d),.int s,.int t]=_;walk_at "ev";rw[P0 h0 (by rw[V0];exact h1),P0 h2 (by rw[V0];exact h3)];walk_at "ev";rfl
 rw[bG,bG,bG,bG,bM,a0w,b3I];show a3w (thn (b6K 4 (e2 a3z (o8 (iL (a6 1)) [2,3] pt1 tT (e2 dEq (e2 u6 (a6 0) (a6 1)) (e2 u6 (a6 0) (a6 2)))) (eC (.bool yn)) [.list (m.map rwD),.list ((aB (D+1)).map λd=>iD (lvl m d)),.int s,.int t,.none,.none,.none,.none]) [.list (m.map rwD),.list ((aB (D+1)).map λd=>iD (lvl m d)),.int s,.int t,.none,.none,.none,.none]) _)=_;rw[hc];walk_at "ev";rw[bE];by_cases c:mny m D s t=D+1
 ·rw[aL (show ((mny m D s t:Nat):Int)=((D+1:Nat):Int) by lia)];walk_at "ev";unfold W3;rw[aE c]
 ·rw[aW (show ¬ ((mny m D s t:Nat):Int)=((D+1:Nat):Int) by lia)];walk_at "ev";rw[c4i (ds:=(aB (mny m D s t)).map λd=>iD (lvl m d))]
  ·obtain⟨s',t',x',y',h⟩:=a2I w (.list ((aB (D+1)).map λd=>iD (lvl m d))) (.int (mny m D s t:Nat)) (mny m D s t) s t [] .none .none h0 h1 h2 h3 (λ_=>c4 _ (aA _) (by lia)) (c3 _ (by lia)) (by simp only[gi];lia);walk_at "ev";have h':=h;unfold iD at h' ⊢;rw[cW]at h';rw[h'];walk_at "ev";unfold W3;rw[aM c]
  ·rw[c3Y];walk_at "ev";rw[c2w,c2x];walk_at "ev";rw[c3Z,c2v,c0H (by lia) (by rw[aj,bE];lia),<-List.map_take,bS,qf,lC (by lia)]
def c2S(m:j5)(n D:Nat):br:=.list ((aB n).map λ(s:Nat)=>.list ((aB n).map λ(t:Nat)=>W3 m D s t))
def a4T{m:j5}{k:Nat}(w:WF m k){D:Nat}(hD:D<=1000){s:Int}(h0:0<=s)(h1:s<m.length):G5 [.list (m.map rwD),.list ((aB (D+1)).map λd=>iD (lvl m d)),.int s]=cz (.list ((aB m.length).map λ(t:Nat)=>W3 m D s t)):=by
 unfold G5;rw[B9 (by simp[VS.argsOk,imm])];unfold a1o;have:=w.le;rw[b0b,a2S (n:=m.length) (λ(t:Nat)=>W3 m D s t) (by walk_at "ev") (by lia) (by lia) (λt ht=>?_)]
 ·rw[bS];rfl
 ·show eCl B0 _ [.int t,.list (m.map rwD),.list ((aB (D+1)).map λd=>iD (lvl m d)),.int s]=_;walk_at "ev";exact b2J w hD h0 h1 (by lia) ht
def b5L{m:j5}{k:Nat}(w:WF m k){D:Nat}(h1:E8 [.list (m.map rwD)]=cz (.list ((aB (D+1)).map λd=>iD (lvl m d))))(hD:D<=1000):a1q [.list (m.map rwD)]=cz (c2S m m.length D):=by
 have:=w.le;unfold a1q;rw[B9 (by simp[VS.argsOk])];unfold b0u;walk_at "ev";rw[h1];walk_at "ev";rw[a2S (n:=m.length) (λ(s:Nat)=>.list ((aB m.length).map λ(t:Nat)=>W3 m D s t)) (by walk_at "ev") (by lia) (by lia) (λs hs=>?_)]
 ·rw[bS];rfl
 ·show eCl G5 _ [.int s,.list (m.map rwD),.list ((aB (D+1)).map λd=>iD (lvl m d))]=_;walk_at "ev";exact a4T w hD (by lia) hs
def b5M{m:j5}{k:Nat}(w:WF m k):∃D:Nat,a1q [.list (m.map rwD)]=cz (c2S m m.length D)/\D+1<=m.length/\
  ∀s t:Int,0<=s->s<m.length->0<=t->t<m.length->lv m D s=lv m D t->lv m (D+1) s=lv m (D+1) t:=by
 obtain⟨D,h1,h2,h3,h4⟩:=a5G w;have:=w.le;exact⟨D,b5L w h1 (by lia),h2,h4⟩
end Prog
namespace VS
open L2
theorem b0S(w:WF m k):∀(c:Nat) (s t:Int),0<=s->s<m.length->0<=t->t<m.length->(c≠0->lv m c s≠lv m c t)->lv m (c-1) s=lv m (c-1) t->∀a∈fu m c s t,0<=a/\a<(k:Int)
 |0,s,t,_,_,_,_,_,_,a,ha=>nomatch ha
 |c+1,s,t,h0,h1,h2,h3,jg,heq,a,ha=>by
  obtain⟨⟨a0,a1⟩,f2,_⟩:=b0D w h0 h1 h2 h3 (jg (by lia));rcases aG.mp ha with e|ha
  ·rw[e];exact⟨a0,a1⟩
  ·have n1:=w.nx h0 h1 a0 a1;have n2:=w.nx h2 h3 a0 a1;refine b0S w c _ _ n1.1 n1.2 n2.1 n2.2 (λhc=>?_) ?_ a ha
   ·obtain⟨c',rfl⟩:∃c',c=c'+1:=⟨c-1,by lia⟩;exact f2.resolve_left λz=>z ((N5 w h0 h1 h2 h3).mp heq _ a0 a1).1
   ·cases c with
    |zero=>rw[A1,A1]
    |succ c'=>exact ((N5 w h0 h1 h2 h3).mp heq _ a0 a1).2
end VS
namespace Prog
open L2 VS
def T5(g:List Int->D)(l:List (List Int)):List (D×D):=l.map λp=>(E7 p,g p)
def a1w(p:List Int)(l:List (List Int)):List (List Int):=if p∈l then l else l++[p]
section
variable {g:List Int->D}{l:List (List Int)}{a:List Int}
def b5N:(T5 g l).length=l.length:=aj ..
theorem a5H(a:List Int):∀l:List (List Int),N0 (T5 g l) (E7 a)=decide (a∈l)
 |[]=>rfl
 |q::l=>by
  have ih:=a5H a l;unfold N0 T5 at ih ⊢;rw[ay,List.any_cons,ih,a8d,Bool.eq_iff_iff];simp only[lG,Ci,aG];exact or_congr_left eq_comm
def b5O:M8 (T5 g l) (E7 a) (g a)=T5 g (a1w a l):=by
 unfold M8 a1w;rw[a5H];by_cases c:a∈l
 ·rw[aL c,aE rfl,aE c];unfold T5;rw[bD];refine bK λx _=>?_
  show (if aI (E7 x) (E7 a)=yn then (E7 x,g a) else (E7 x,g x))=(E7 x,g x);rw[a8d];by_cases e:x=a
  ·rw[aL e,aE rfl,e]
  ·rw[aW e,aM cj]
 ·rw[aW c,aM c,aM cj];unfold T5;rw[aQ];rfl
def b2K:(T5 g l).map (·.1)=l.map E7:=by unfold T5;rw[bD];rfl
def b0T{Z:List D}(hv:fv Z=cz (g a))(hk:fk Z=cz (E7 a))(hd:Z.getD i .none=.dict (T5 g l))(hl:l.length<1000000):J0 i yn fk fv Z=cz (.nx (Z.set i (.dict (T5 g (a1w a l))))):=by
 rw[a9B hv hk hd (b2I a) (by rw[b5N];exact hl),b5O]
def a4t:q∈a1w p l↔q∈l\/q=p:=by
 unfold a1w;by_cases c:p∈l
 ·rw[aE c];exact⟨.inl,λh=>h.elim id λe=>e▸c⟩
 ·rw[aM c,av,ar]
def a8e:(a1w p l).length<=l.length+1:=by
 unfold a1w;by_cases c:p∈l
 ·rw[aE c];lia
 ·rw[aM c,az];exact aA _
end
def c2T(l:List (List Int)):Option (List Int)->List (List Int)
 |none=>l
 |some p=>a1w p l
def ddP(ps:List (Option (List Int))):List (List Int):=ps.foldl c2T []
def a4u(ps:List (Option (List Int)))(o:Option (List Int)):ddP (ps++[o])=c2T (ddP ps) o:=by unfold ddP;rw[gF];rfl
def b8e(ps:List (Option (List Int))):p∈ddP ps↔cz p∈ps:=by
 induction ps using snoc_ind with
 |h0=>exact⟨λh=>(nomatch h),λh=>(nomatch h)⟩
 |h1 ps o ih=>
  rw[a4u,av,ar];cases o with
  |none=>exact ih.trans ⟨.inl,λh=>h.elim id λe=>nomatch e⟩
  |some q=>
   show p∈a1w q (ddP ps)↔_;rw[a4t,ih];exact or_congr_right ⟨λe=>by rw[e],λe=>aK e⟩
def a6N(ps:List (Option (List Int))):(ddP ps).length<=ps.length:=by
 induction ps using snoc_ind with
 |h0=>exact aA _
 |h1 ps o ih=>
  rw[a4u,az];cases o with
  |none=>exact ox ih
  |some q=>exact cR a8e (Nat.succ_le_succ ih)
def C2(l:List (List Int)):(W5 l).Perm l:=by
 have h:=(a1Q (l.map a1R)).map tj;rw[bD]at h;have e:l.map (tj ∘ a1R)=l:=List.map_id'' (f:=tj ∘ a1R) (λ_=>rfl) l;rw[e]at h;exact h
def a8f{Z:List D}(h:a Z=cz (.dict (T5 g l)))(hl:l.length<65536)(hm:∀p∈l,m [E7 p]=cz (kdP p)):a0Q m a Z=cz (.list ((W5 l).map E7)):=by
 unfold a0Q;rw[h,fq];show (cz ((T5 g l).map (·.1))).bind _=_;rw[fq,b2K,a4r,fq,aE (b7q (l:=yH) hl hm)];rfl
def b8C{fa fb:EvE}{Z:List D}{d:D}{k:Bool}(h:fa Z=cz d)(hk:tr d=cz k):b7s fa fb Z=if k then cz d else fb Z:=by
 unfold b7s;rw[h,fq,hk,fq]
def a8g(a:List Int):imm (E7 a)=yn:=by unfold E7;simp only[imm];exact v7 a
def b0U(p:List Int):a0V [E7 p]=cz (kdP p):=by
 unfold a0V E7;rw[B9 (by simp[VS.argsOk,imm,v7])];unfold b4T;walk_at "ev";rfl
def mkL(l:List (List Int)):List (List Int):=if l=[] then [[]] else W5 l
def a4v(ps:List (Option (List Int)))(hl:ps.length<64):C7 [.list (ps.map a2N)]=cz (.list ((mkL (ddP ps)).map iD)):=by
 have EB:=a6N ps;unfold C7;rw[B9 (by simp[VS.argsOk])];unfold a0B;walk_at "ev";refine N2 (λZ=>∃x,Z=[.list (ps.map a2N),.dict (T5 (λ_=>cK yn) (ddP ps)),x]) ?_ ?_
 ·obtain⟨Z',h1,x,rfl⟩:=z7 (enc:=a2N) (set:=r0 2) (xs:=ps) (g:=(sIf (tB (e2 (a8x yn) (a6 2) (eC .none))) (J0 1 yn (X4 (a6 2)) (eC (.bool yn))) G9)) (Z:=[.list (ps.map a2N),.dict [],.none])
   (λpre Z=>∃x,Z=[.list (ps.map a2N),.dict (T5 (λ_=>cK yn) (ddP pre)),x]) ⟨_,rfl⟩ (by
    rintro pre o post e Z ⟨x,rfl⟩;have hlen:pre.length<64:=by have:=dH eh e;simp at this;lia
    have hd2:=a6N pre;refine⟨_,[.list (ps.map a2N),.dict (T5 (λ_=>cK yn) (ddP (pre++[o]))),a2N o],rfl,?_,_,rfl⟩;rw[a4u];cases o with
    |none=>
     show (sIf (tB (e2 (a8x yn) (a6 2) (eC .none))) (J0 1 yn (X4 (a6 2)) (eC (.bool yn))) G9) [.list (ps.map a2N),.dict (T5 (λ_=>cK yn) (ddP pre)),.none]=_;walk_at "ev";rfl
    |some p=>
     show (sIf (tB (e2 (a8x yn) (a6 2) (eC .none))) (J0 1 yn (X4 (a6 2)) (eC (.bool yn))) G9) [.list (ps.map a2N),.dict (T5 (λ_=>cK yn) (ddP pre)),.list (p.map .int)]=_;walk_at "ev";rw[b0T (g:=(λ_=>cK yn)) (a:=p) (l:=ddP pre) rfl (a6H (ds:=p.map .int) rfl (v7 p)) rfl (by lia)];rfl)
  exact⟨_,h1,_,rfl⟩
 ·rintro Z ⟨x,rfl⟩;have uT:(W5 (ddP ps)).length<=1000000:=by rw[(C2 _).length_eq];lia
  have hc:(o8 (iI (iL (a0Q a0V (a6 1)))) [] pt1 tT (eI (V6 (a6 0)))) [.list (ps.map a2N),.dict (T5 (λ_=>cK yn) (ddP ps)),x]=cz (.list ((W5 (ddP ps)).map iD)):=by
   refine P6 (enc:=E7) (xs:=W5 (ddP ps)) iD ?_ uT λp _=>⟨[E7 p],rfl,?_⟩
   ·rw[a1T (ds:=(W5 (ddP ps)).map E7) ?_ (m7 _ a8g _)];rw[b2q,a8f (g:=(λ_=>cK yn)) (l:=ddP ps) rfl (by lia) λp _=>b0U p];rfl
   ·have hi:=v7 p;show eI (V6 (a6 0)) [.tuple (p.map .int)]=_;walk_at "ev"
  walk_at "ev";unfold mkL;by_cases c:ddP ps=[]
  ·rw[aE c];rw[c]at hc;rw[c,b8C (k:=yH) hc rfl];rfl
  ·rw[aM c];cases h:W5 (ddP ps) with
   |nil=>
    have:=(C2 (ddP ps)).symm;rw[h]at this;exact absurd this.eq_nil c
   |cons a l=>
    rw[h]at hc;rw[b8C (k:=yn) hc rfl];rfl
def a0F(m:j5)(D:Nat)(s t:Int):Option (List Int):=if mny m D s t=D+1 then xn else cz (fu m (mny m D s t) s t)
def b8f(m:j5)(D:Nat)(s t:Int):a2N (a0F m D s t)=W3 m D s t:=by
 unfold a0F W3;by_cases c:mny m D s t=D+1
 ·rw[aE c,aE c];rfl
 ·rw[aM c,aM c];rfl
def a4w(m:j5)(D:Nat)(s:Int):List (List Int):=ddP ((aB m.length).map λ(t:Nat)=>a0F m D s t)
def mks(m:j5)(D:Nat)(s:Int):List (List Int):=mkL (a4w m D s)
def b5P(w:WF m k):∃D:Nat,a2V [.list (m.map rwD)]=cz (.list ((aB m.length).map λ(s:Nat)=>cF ((mks m D s).map iD)))/\D+1<=m.length/\
  ∀s t:Int,0<=s->s<m.length->0<=t->t<m.length->lv m D s=lv m D t->lv m (D+1) s=lv m (D+1) t:=by
 have hn:=w.le;obtain⟨D,ha,hD,mS⟩:=b5M w;refine⟨D,?_,hD,mS⟩;unfold a2V;rw[B9 (by simp[VS.argsOk])];unfold b0w;walk_at "ev";rw[P6 (enc:=λ(s:Nat)=>cF ((aB m.length).map λ(t:Nat)=>W3 m D s t)) (xs:=aB m.length) (λ(s:Nat)=>cF ((mks m D s).map iD)) ?_ (by rw[bE];lia) ?_]
 ·rfl
 ·walk_at "ev";rw[ha];rfl
 ·intro s _;refine⟨[_],rfl,?_⟩;show eCl C7 (a7 (a6 0) b9) [cF ((aB m.length).map λ(t:Nat)=>W3 m D s t)]=_;have e:((aB m.length).map λ(t:Nat)=>W3 m D s t)=(((aB m.length).map λ(t:Nat)=>a0F m D s t).map a2N):=by
   rw[bD];exact bK λt _=>(b8f m D s t).symm
  walk_at "ev";rw[e,a4v _ (by rw[aj,bE];lia)];rfl
section
variable {m:j5}{k D:Nat}(w:WF m k)(mS:∀s t:Int,0<=s->s<m.length->0<=t->t<m.length->lv m D s=lv m D t->lv m (D+1) s=lv m (D+1) t)
include w
theorem a9K{s t:Int}(s0:0<=s)(s1:s<m.length)(t0:0<=t)(t1:t<m.length):a0F m D s t=xn↔lv m D s=lv m D t:=by
 obtain⟨c1,c2,c3,c4⟩:=a4s w D s0 s1 t0 t1;unfold a0F;by_cases c:mny m D s t=D+1
 ·rw[aE c];exact⟨λ_=>c3 D (by lia),λ_=>rfl⟩
 ·rw[aM c];exact⟨λh=>(nomatch h),λh=>absurd h (c4 D (by lia) (aA _))⟩
theorem a9L{s t:Int}{p:List Int}(s0:0<=s)(s1:s<m.length)(t0:0<=t)(t1:t<m.length)(h:a0F m D s t=cz p):∃c,p=fu m c s t/\1<=c/\c<=D/\lv m c s≠lv m c t/\lv m (c-1) s=lv m (c-1) t:=by
 obtain⟨c1,c2,c3,c4⟩:=a4s w D s0 s1 t0 t1;unfold a0F at h;by_cases c:mny m D s t=D+1
 ·rw[aE c]at h;cases h
 ·rw[aM c]at h;cases h
  exact⟨mny m D s t,rfl,c1,by lia,c4 _ (aA _) (by lia),c3 _ (by lia)⟩
theorem b5Q{s:Int}{p:List Int}:p∈a4w m D s↔∃t:Nat,t<m.length/\a0F m D s t=cz p:=by
 unfold a4w;rw[b8e,aJ];exact⟨λ⟨t,ht,e⟩=>⟨t,bO.mp ht,e⟩,λ⟨t,ht,e⟩=>⟨t,bO.mpr ht,e⟩⟩
theorem b0V{s:Int}(s0:0<=s)(s1:s<m.length){p:List Int}(h:p∈a4w m D s):(∀a∈p,0<=a/\a<(k:Int))/\1<=p.length/\p.length<=D:=by
 obtain⟨t,ht,e⟩:=(b5Q w).mp h;obtain⟨c,rfl,c1,c2,c3,c4⟩:=a9L w s0 s1 (by lia) (by lia) e;rw[b5e];exact⟨b0S w c s t s0 s1 (by lia) (by lia) (λ_=>c3) c4,c1,c2⟩
theorem b8g(h:p∈mks m D s):p∈a4w m D s\/p=[]/\mks m D s=[[]]:=by
 unfold mks mkL at h ⊢;by_cases c:a4w m D s=[]
 ·rw[aE c]at h ⊢;exact .inr ⟨ar.mp h,rfl⟩
 ·rw[aM c]at h ⊢;exact .inl ((C2 _).mem_iff.mp h)
theorem c0Z{s:Int}(s0:0<=s)(s1:s<m.length){p:List Int}(h:p∈mks m D s):(∀a∈p,0<=a/\a<(k:Int))/\p.length<=D:=by
 rcases b8g w h with z|⟨rfl,_⟩
 ·exact⟨(b0V w s0 s1 z).1,(b0V w s0 s1 z).2.2⟩
 ·exact⟨λa ha=>(nomatch ha),cG _⟩
theorem c1a(s:Int):mks m D s≠[]:=by
 unfold mks mkL;by_cases c:a4w m D s=[]
 ·rw[aE c];exact List.cons_ne_nil _ _
 ·rw[aM c];intro e;have:=(C2 (a4w m D s)).symm;rw[e]at this;exact c this.eq_nil
end
end Prog
namespace VS
open L2
def lng(k:Nat)(L:List (List Int)):List (List Int):=L.flatMap λr=>(aB k).map λ(x:Nat)=>r++[(x:Int)]
def lvR(k:Nat):Nat->List (List Int)
 |0=>[[]]
 |n+1=>lng k (lvR k n)
def H9(k:Nat):Nat->List (List Int)
 |0=>[[]]
 |n+1=>H9 k n++lvR k (n+1)
theorem a6O(k:Nat):∀L:List (List Int),(lng k L).length=L.length*k
 |[]=>by simp[lng]
 |x::L=>by
  have e:lng k (x::L)=((aB k).map λ(y:Nat)=>x++[(y:Int)])++lng k L:=rfl;rw[e,az,aj,bE,a6O k L,aY,Nat.add_mul,Nat.one_mul,jE]
theorem a2h(k:Nat):∀n,(lvR k n).length=k^n
 |0=>rfl
 |n+1=>by
  show (lng k (lvR k n)).length=_;rw[a6O,a2h k n,Nat.pow_succ]
theorem b0W(k:Nat)(hk:1<=k):∀n,(H9 k n).length<=(n+1)*k^n
 |0=>by simp[H9]
 |n+1=>by
  show (H9 k n++lvR k (n+1)).length<=_;rw[az,a2h];have h1:=b0W k hk n;have h2:k^n<=k^(n+1):=xr hk (xt n);have h3:(n+1)*k^n<=(n+1)*k^(n+1):=mK _ h2;rw[Nat.add_mul (n+1) 1,Nat.one_mul];lia
def b8h(h:∀r∈L,r.length=n):∀r∈lng k L,r.length=n+1:=by
 intro r hr;obtain⟨q,hq,hr⟩:=cO.mp hr;obtain⟨x,_,rfl⟩:=aJ.mp hr;rw[az,h q hq];rfl
theorem a9M(k:Nat):∀n,∀r∈lvR k n,r.length=n
 |0,r,h=>by rw[ar.mp h];rfl
 |n+1,r,h=>b8h (a9M k n) r h
theorem b0X(k:Nat):∀n,∀r∈H9 k n,r.length<=n
 |0,r,h=>by rw[ar.mp h];exact aA _
 |n+1,r,h=>by
  rcases av.mp h with z|z
  ·exact ox (b0X k n r z)
  ·rw[a9M k (n+1) r z];exact aA _
def lD(r:List Int):D:=.list (r.map .int)
end VS
namespace Prog
open L2 VS
def b2L{k n:Nat}{L:List (List Int)}(hk:k<=5)(hl:L.length<=10000)(hm:∀r∈L,r.length=n)(hn:n<=100):q9 [.list (L.map lD),.int k]=cz (.list ((lng k L).map lD)):=by
 unfold q9;rw[B9 (by simp[VS.argsOk,imm])];unfold T2;walk_at "ev";refine N2 (λZ=>∃x,Z=[.list (L.map lD),.int k,.list ((lng k L).map lD),x]) ?_ ?_
 ·obtain⟨Z',g1,x,rfl⟩:=z7 (enc:=lD) (set:=r0 3) (xs:=L) (g:=(a7y 2 (o8 (iR (a6 1)) [3] pt1 tT (eI (U0 (a6 1) (v6 (a7 (a6 0) b9))))))) (Z:=[.list (L.map lD),.int k,.list [],.none])
   (λpre Z=>∃x,Z=[.list (L.map lD),.int k,.list ((lng k pre).map lD),x]) ⟨_,rfl⟩ (by
    rintro pre r post e Z ⟨x,rfl⟩;have hr:=hm r (by rw[e];simp);have gn:pre.length<L.length:=by rw[e];simp
    have hc:(o8 (iR (a6 1)) [3] pt1 tT (eI (U0 (a6 1) (v6 (a7 (a6 0) b9))))) [.list (L.map lD),.int k,.list ((lng k pre).map lD),lD r]=cz (.list (((aB k).map λ(x:Nat)=>r++[(x:Int)]).map lD)):=by
     rw[a2S (n:=k) (λ(x:Nat)=>lD (r++[(x:Int)])) (by walk_at "ev") (by lia) (by lia)]
     ·rw[bS,bD];rfl
     ·intro x hx;show eI (U0 (a6 1) (v6 (a7 (a6 0) b9))) [.int x,.list (r.map .int)]=_;rw[a5w,b0s];walk_at "ev";rw[show b2r (cz (.list (r.map .int))) (cz (.list [.int (x:Int)]))=_ from a3Y (xs:=r) (ys:=[(x:Int)]) (by simp;lia)];exact a6x
    refine⟨_,[.list (L.map lD),.int k,.list ((lng k (pre++[r])).map lD),lD r],rfl,?_,_,rfl⟩;show a7y 2 _ [.list (L.map lD),.int k,.list ((lng k pre).map lD),lD r]=_;unfold a7y;rw[hc,fq];show (if ((lng k pre).map lD).length+(((aB k).map λ(x:Nat)=>r++[(x:Int)]).map lD).length<=1000000 then cz (Out.nx [.list (L.map lD),.int k,.list ((lng k pre).map lD++(((aB k).map λ(x:Nat)=>r++[(x:Int)]).map lD)),lD r]) else xn)=_;have h1:pre.length*k<=10000*5:=qY (by lia) hk;rw[aE (by rw[aj,a6O,aj,aj,bE];lia)];have e2:lng k (pre++[r])=lng k pre++((aB k).map λ(x:Nat)=>r++[(x:Int)]):=by
     unfold lng;rw[eD,List.flatMap_singleton]
    rw[e2,aQ])
  exact⟨_,g1,_,rfl⟩
 ·rintro Z ⟨x,rfl⟩;walk_at "ev"
def a9N{k n:Nat}(rL:1<=k)(hk:k<=5)(hn:n<=31)(hp:k^n<=3125):a0p [.int k,.int n]=cz (.list ((H9 k n).map lD)):=by
 unfold a0p;rw[B9 (by simp[VS.argsOk,imm])];unfold a5C;walk_at "ev";rw[a6j (n:=n) (by walk_at "ev") (by lia) (by lia),bS];walk_at "ev";refine N2 (λZ=>∃x y,Z=[.int k,.int n,.list ((H9 k n).map lD),x,y]) ?_ ?_
 ·obtain⟨Z',g1,x,rfl⟩:=E6 (n:=n) (set:=r0 4) (g:=(g9 (j8 3 (eCl q9 (a7 (a6 3) (a7 (a6 0) b9)))) (a2q 2 3))) (Z:=[.int k,.int n,.list [.list []],.list [.list []],.none])
   (λj Z=>∃x,Z=[.int k,.int n,.list ((H9 k j).map lD),.list ((lvR k j).map lD),x]) ⟨_,rfl⟩ (by
    rintro j hj Z ⟨x,rfl⟩;have zi:∀i,i<=n->k^i<=3125:=λi hi=>cR (xr rL hi) hp
    refine⟨_,[.int k,.int n,.list ((H9 k (j+1)).map lD),.list ((lvR k (j+1)).map lD),.int j],rfl,?_,_,rfl⟩;show (g9 (j8 3 (eCl q9 (a7 (a6 3) (a7 (a6 0) b9)))) (a2q 2 3)) [.int k,.int n,.list ((H9 k j).map lD),.list ((lvR k j).map lD),.int j]=_;walk_at "ev";rw[b2L hk (by rw[a2h];have:=zi j (by lia);lia) (a9M k j) (by lia)];walk_at "ev";show (if ((H9 k j).map lD).length+((lng k (lvR k j)).map lD).length<=1000000 then cz (Out.nx [.int k,.int n,.list ((H9 k j).map lD++(lng k (lvR k j)).map lD),.list ((lng k (lvR k j)).map lD),.int j]) else xn)=_;have h1:=b0W k rL j;have h2:(j+1)*k^j<=32*3125:=qY (by lia) (zi j (by lia));have h3:(lng k (lvR k j)).length=k^(j+1):=a2h k (j+1);have h4:=zi (j+1) (by lia);rw[aE (by rw[aj,aj,h3];lia),<-aQ];rfl)
  exact⟨_,g1,_,_,rfl⟩
 ·rintro Z ⟨x,y,rfl⟩;walk_at "ev"
def rF(a:Int):Nat->Int
 |0=>1
 |n+1=>rF a n*a+1
def szF(s a e:Int):Int:=s*rF a (e+1).toNat*(if 1<s then s-1 else 1)
def b0Y(s a e:Int)(s0:1<=s)(s1:s<=30)(a0:1<=a)(a1:a<=5)(e0:0<=e)(e1:e<=30):L5 [.int s,.int a,.int e]=cz (.int (szF s a e)):=by
 unfold L5;rw[B9 (by simp[VS.argsOk,imm])];unfold a2D;walk_at "evm";rw[a6j (n:=e+1) (by walk_at "evm") (by lia) (by lia)];walk_at "evm";refine N2 (λZ=>∃x,Z=[.int s,.int a,.int e,.int (rF a (e+1).toNat),x]) ?_ ?_
 ·exact E6 (n:=(e+1).toNat) (λk Z=>∃x,Z=[.int s,.int a,.int e,.int (rF a k),x]) ⟨_,rfl⟩ λk hk Z ⟨x,hx⟩=>by
   subst hx;refine⟨_,_,rfl,?_,.int k,rfl⟩;walk_at "evm";rfl
 ·rintro Z ⟨x,rfl⟩;walk_at "evm";show a3w (retS (l2 Q0 (cz (.int (s*rF a (e+1).toNat))) (cz (.int (if 1>s-1 then 1 else s-1)))))=_;have e:(if (1:Int)>s-1 then 1 else s-1)=if 1<s then s-1 else 1:=by
   by_cases c:(1:Int)>s-1
   ·rw[aE c];by_cases d:1<s
    ·rw[aE d];lia
    ·rw[aM d]
   ·rw[aM c,aE (by lia)]
  rw[e];have hb:((if 1<s then s-1 else 1:Int)).natAbs<2^64:=by
   by_cases d:1<s
   ·rw[aE d];lia
   ·rw[aM d];decide
  rw[b9z,a6i hb];rfl
end Prog
local macro_rules | `(tactic| walk_at "evc")=>`(tactic| first | (walk_at "ev";repeat (simp -implicitDefEqProofs (disch:=first | omega | assumption | decide) only [Prog.a4g];try walk_at "ev")) | (simp -implicitDefEqProofs (disch:=first | omega | assumption | decide) only [Prog.a4g];repeat (first | walk_at "ev" | simp -implicitDefEqProofs (disch:=first | omega | assumption | decide) only [Prog.a4g])))
namespace Prog
open L2 VS
def a4x(s a M:Int)(s0:1<=s)(s1:s<=30)(a0:1<=a)(a1:a<=5)(M1:M<=40):m_law_size [.int s,.int a,.int M]=cz (.int (szF s a (max 0 (M-s)))):=by
 unfold m_law_size;rw[B9 (by simp[VS.argsOk,imm])];unfold b_law_size;walk_at "evm";rw[a6j (n:=max 0 (M-s)+1) (by repeat (first|rw[a4l]|walk_at "evm")) (by lia) (by lia)];walk_at "evm";refine N2 (λZ=>∃x,Z=[.int s,.int a,.int M,.int (rF a (max 0 (M-s)+1).toNat),x]) ?_ ?_
 ·exact E6 (n:=(max 0 (M-s)+1).toNat) (λk Z=>∃x,Z=[.int s,.int a,.int M,.int (rF a k),x]) ⟨_,rfl⟩ λk hk Z ⟨x,hx⟩=>by
   subst hx;have e:rF a (k+1)=1+a*rF a k:=by
    show rF a k*a+1=_;rw[Int.mul_comm,Int.add_comm]
   refine⟨_,_,rfl,?_,.int k,rfl⟩;rw[e];walk_at "evm"
 ·rintro Z ⟨x,rfl⟩
  repeat (first|rw[a4l]|walk_at "evm")
  unfold szF;rw[show (if (1:Int)<s then s-1 else 1)=max 1 (s-1) by split<;>lia]
def b2M(ns:List Int)(s0:1<=s)(s1:s<=30)(a0:1<=a)(a1:a<=5):∃M:Int,m_law_most [.list (ns.map .int),.int s,.int a]=cz (.int M)/\1<=M/\M<=30:=by
 unfold m_law_most;rw[B9 (by simp[VS.argsOk,imm])];unfold b_law_most;walk_at "evc";refine G0 (R:=λo=>∃M:Int,o=cz (.int M)/\1<=M/\M<=30) (λZ=>∃x:Int,s<=x/\x<=30/\Z=[.list (ns.map .int),.int s,.int a,.int x,.none,.none]) ?_ ?_
 ·refine a0r (c:=(tAn (tB (e2 dLt (a6 3) (eC (.int 30)))) (tB (e2 dLe (eCl m_law_size (a7 (a6 1) (a7 (a6 2) (a7 (a6 3) b9)))) (eC (.int 3000)))))) (g:=(j8 3 (e2 D7 (a6 3) (eC (.int 1))))) (I:=λj Z=>∃x:Int,x=s+j/\x<=30/\Z=[.list (ns.map .int),.int s,.int a,.int x,.none,.none]) 30 ?_ 1000000 0 _ ⟨s,by lia,s1,rfl⟩ (by lia);rintro j Z ⟨x,hx,AN,rfl⟩;refine⟨by lia,?_⟩;have hl:=a4x s a x s0 s1 a0 a1 (by lia);by_cases c:x<30
  ·by_cases c2:szF s a (max 0 (x-s))<=3000
   ·refine .inr ⟨?_,[.list (ns.map .int),.int s,.int a,.int (x+1),.none,.none],?_,x+1,by lia,by lia,rfl⟩<;>repeat (first|rw[hl]|rw[aL c]|rw[aL c2]|walk_at "ev")
   ·refine .inl ⟨?_,x,by lia,AN,rfl⟩
    repeat (first|rw[hl]|rw[aL c]|rw[aW c2]|walk_at "ev")
  ·refine .inl ⟨?_,x,by lia,AN,rfl⟩
   repeat (first|rw[aW c]|walk_at "ev")
 rintro Z ⟨x,x0,x1,rfl⟩;have em:∀(i b:Int),0<b->0<=L6 ns i % b/\L6 ns i % b<b:=λi b hb=>⟨fF _ (by lia),eM _ hb⟩
 have q3:=em 5 3 (by decide);have F_:=em 5 30 (by decide);generalize hw:L6 ns 4 % 8=y;by_cases c:y=0
 ·repeat (first|rw[hw]|rw[aL c]|rw[a4l]|walk_at "evc")
  exact⟨_,rfl,by lia,by lia⟩
 by_cases c3:y<3
 ·repeat (first|rw[hw]|rw[aW c]|rw[aL c3]|walk_at "evc")
  exact⟨_,rfl,by lia,by lia⟩
 repeat (first|rw[hw]|rw[aW c]|rw[aW c3]|walk_at "evc")
 refine G0 (R:=λo=>∃M:Int,o=cz (.int M)/\1<=M/\M<=30) (λZ=>∃z:Int,1<=z/\z<=32/\Z=[.list (ns.map .int),.int s,.int a,.int x,.int y,.int z]) ?_ ?_
 ·by_cases c4:y=3
  ·rw[aL c4];walk_at "evc";exact⟨_,rfl,_,by lia,by lia,rfl⟩
  ·rw[aW c4];walk_at "evc";exact⟨_,rfl,_,by lia,by lia,rfl⟩
 rintro Z ⟨z,z0,z1,rfl⟩;rw[a0w];refine G0 (R:=λo=>∃M:Int,o=cz (.int M)/\1<=M/\M<=30) (λZ=>∃z:Int,1<=z/\Z=[.list (ns.map .int),.int s,.int a,.int x,.int y,.int z]) ?_ ?_
 ·refine a0r (c:=(tAn (tB (e2 dGt (a6 5) (a6 1))) (tB (eCh dLt dLe (eC (.int 400)) (eCl m_law_size (a7 (a6 1) (a7 (a6 2) (a7 (a6 5) b9)))) (eC (.int 3000)))))) (g:=(j8 5 (e2 a1y (a6 5) (eC (.int 1))))) (I:=λj Z=>∃z:Int,1<=z/\z+j<=32/\Z=[.list (ns.map .int),.int s,.int a,.int x,.int y,.int z]) 32 ?_ 1000000 0 _ ⟨z,z0,by lia,rfl⟩ (by lia);rintro j Z ⟨z,z0,z1,rfl⟩;refine⟨by lia,?_⟩;have hl:=a4x s a z s0 s1 a0 a1 (by lia);generalize szF s a (max 0 (z-s))=t at hl;by_cases c5:s<z
  ·by_cases c6:400<t/\t<=3000
   ·obtain⟨c6,c7⟩:=c6;refine .inr ⟨?_,[.list (ns.map .int),.int s,.int a,.int x,.int y,.int (z-1)],?_,z-1,by lia,by lia,rfl⟩<;>repeat (first|rw[hl]|rw[aL c5]|rw[aL c6]|rw[aL c7]|walk_at "ev")
   ·refine .inl ⟨?_,z,z0,rfl⟩;by_cases c7:400<t
    ·have c8:¬ t<=3000:=λh=>c6 ⟨c7,h⟩
     repeat (first|rw[hl]|rw[aL c5]|rw[aL c7]|rw[aW c8]|walk_at "ev")
    ·repeat (first|rw[hl]|rw[aL c5]|rw[aW c7]|walk_at "ev")
  ·refine .inl ⟨?_,z,z0,rfl⟩
   repeat (first|rw[aW c5]|walk_at "ev")
 rintro Z ⟨z,z0,rfl⟩
 repeat (first|rw[c0V]|walk_at "evc")
 exact⟨_,rfl,by lia,by lia⟩
local macro_rules | `(tactic| walk_at "ev1")=>`(tactic| simp -implicitDefEqProofs only [VS.b3I,VS.b8v,VS.b8u,VS.b0a,VS.b3H,VS.b3G,nH,fX])
abbrev B5(ns mn:List Int)(n k:Nat)(t:List D):List D:=.list (ns.map .int)::.int n::.int k::.list (mn.map .int)::t
abbrev B6(ns:List Int)(m:j5)(t:List D):List D:=.list (ns.map .int)::.list (m.map rwD)::t
def Rw(k n:Nat)(r:List (Int×Int)):Prop:=r.length=k/\∀p∈r,0<=p.2/\p.2<(n:Int)
def Rw.app{k n:Nat}{r:List (Int×Int)}(h:Rw k n r){x y:Int}(y0:0<=y)(y1:y<n):Rw (k+1) n (r++[(x,y)]):=⟨by rw[az,h.1,bN],λp hp=>by
 rcases av.mp hp with z|z
 ·exact h.2 p z
 ·rw[ar.mp z];exact⟨y0,y1⟩⟩
def Rws(k n j:Nat)(m:j5):Prop:=m.length=j/\∀r∈m,Rw k n r
def Rws.app{k n j:Nat}{m:j5}(h:Rws k n j m){r:List (Int×Int)}(hr:Rw k n r):Rws k n (j+1) (m++[r]):=⟨by rw[az,h.1,bN],λq hq=>by
 rcases av.mp hq with z|z
 ·exact h.2 q z
 ·rw[ar.mp z];exact hr⟩
def Rws.wf(h:Rws k n n m)(n1:1<=n)(De:n<=30)(k1:1<=k)(k5:k<=5):WF m k:=⟨by rw[h.1];lia,by rw[h.1];exact De,k1,k5,λr hr=>(h.2 r hr).1,λr hr=>by rw[h.1];exact (h.2 r hr).2⟩
abbrev b8i:EvS:=(g9 (a7i 6 7 (e2 u6 (e2 dIx (a6 1) (e2 a8w (a6 3) (eC (.int 2)))) (a6 5))) (Q4 4 (.l .i) C3 (T8 (a7 (a6 6) (a7 (e2 D7 (e2 Q0 (eC (.int 2)) (a6 7)) (e2 G8 (eCl m_law_mixed (a7 (a6 0) (a7 (e2 D7 (e2 D7 (eC (.int 60)) (e2 Q0 (eC (.int 5)) (a6 3))) (a6 5)) b9))) (eC (.int 2)))) b9)))))
abbrev c2U:EvS:=(g9 (j8 4 (v6 b9)) (g9 (C6 (iR (eCl J8 (a7 (e2 dIx (a6 1) (eC (.int 0))) b9))) (r0 5) b8i) (Q4 2 (.l (.l .i)) C3 (a6 4))))
def b5R(ns:List Int){m:j5}{k:Nat}(w:WF m k)(h4:m.length<=4):∃m':j5,m_law_twice [.list (ns.map .int),.list (m.map rwD)]=cz (.list (m'.map rwD))/\WF m' k:=by
 have oP:=w.pos;have wq:=w.k5;have e0:(rowAt m 0).length=k:=w.row (by lia) (by lia);have Fs:∀j:Int,j<2*(m.length:Nat)->j / 2<m.length:=λj hj=>by lia
 unfold m_law_twice;rw[B9 (by simp[VS.argsOk])];unfold b_law_twice;walk_at "evc";rw[a6j (n:=((2*m.length:Nat):Int)) (by walk_at "evc";rw[Y0 (i:=2) (by decide)];rfl) (by lia) (by lia),bS];walk_at "evc";have row:∀j:Nat,j<2*m.length->∀(f y z u:D),∃(r:List (Int×Int)) (x' y' z':D),Rw k (2*m.length) r/\(C6 (iR (eCl J8 (a7 (e2 dIx (a6 1) (eC (.int 0))) b9))) (r0 5) b8i) (B6 ns m [f,.int j,.list [],y,z,u])=cz (.nx (B6 ns m [f,.int j,rwD r,x',y',z'])):=by
  intro j hj f y z u;have wy:=Fs j (by lia);walk_at "evc";rw[a6j (n:=k) (by walk_at "evc";rw[a2L (by lia) (by lia)];walk_at "evc";rw[e0]) (by lia) (by lia),bS];walk_at "evc";obtain⟨Z',h1,r,x',y',z',h2,rfl⟩:=E6 (n:=k) (set:=r0 5) (g:=b8i) (Z:=(B6 ns m [f,.int j,.list [],y,z,u]))
   (λi Z=>∃(r:List (Int×Int)) (x' y' z':D),Rw i (2*m.length) r/\Z=(B6 ns m [f,.int j,rwD r,x',y',z']))
   ⟨[],y,z,u,⟨rfl,λp hp=>(nomatch hp)⟩,rfl⟩ (by
    rintro i hi Z ⟨r,x',y',z',hr,rfl⟩;have xN:=w.row (s:=((j:Int) / 2)) (by lia) wy;have Bv:=w.nx (s:=((j:Int) / 2)) (a:=(i:Int)) (by lia) wy (by lia) (by lia);have c0:=fF (L6 ns (60+5*(j:Int)+i)) (show (2:Int)≠0 by decide);have c1:=eM (L6 ns (60+5*(j:Int)+i)) (show (0:Int)<2 by decide);refine⟨_,(B6 ns m [f,.int j,rwD (r++[((stp m ((j:Int) / 2) i).1,2*(stp m ((j:Int) / 2) i).2+L6 ns (60+5*(j:Int)+i) % 2)]),.int i,.int (stp m ((j:Int) / 2) i).1,.int (stp m ((j:Int) / 2) i).2]),rfl,?_,_,_,_,_,hr.app (by lia) (by lia),rfl⟩;unfold b8i;walk_at "evc";rw[a2L (by lia) wy];walk_at "evc";rw[b2s (by lia) (by lia)];walk_at "evc";rw[Y0 (i:=2) (by decide),Y0 (i:=5) (by decide)];walk_at "evc";unfold rwD;rw[a0L (by rw[aj,hr.1];lia),aQ];rfl)
  exact⟨r,x',y',z',h2,h1⟩
 refine G0 (R:=λo=>∃m':j5,o=cz (.list (m'.map rwD))/\WF m' k) (λZ=>∃(m':j5) (x y z u v:D),Rws k (2*m.length) (2*m.length) m'/\Z=(B6 ns m [.list (m'.map rwD),x,y,z,u,v])) ?_ ?_
 ·refine E6 (n:=2*m.length) (set:=r0 3) (Z:=(B6 ns m [.list [],.none,.none,.none,.none,.none])) (g:=c2U)
   (λj Z=>∃(m':j5) (x y z u v:D),Rws k (2*m.length) j m'/\Z=(B6 ns m [.list (m'.map rwD),x,y,z,u,v]))
   ⟨[],.none,.none,.none,.none,.none,⟨rfl,λr hr=>(nomatch hr)⟩,rfl⟩ ?_
  rintro j hj Z ⟨m',x,y,z,u,v,hm,rfl⟩;obtain⟨r,x',y',z',zh,zg⟩:=row j hj (.list (m'.map rwD)) z u v;refine⟨_,(B6 ns m [.list ((m'++[r]).map rwD),.int j,rwD r,x',y',z']),rfl,?_,m'++[r],_,_,_,_,_,hm.app zh,rfl⟩;unfold c2U;rw[a0w];walk_at "ev1";rw[a0w,zg];walk_at "evc";rw[a0L (by rw[aj,hm.1];lia),aQ];rfl
 ·rintro Z ⟨m',x,y,z,u,v,h1,rfl⟩;walk_at "evc";exact⟨m',rfl,h1.wf (by lia) (by lia) w.k1 w.k5⟩
abbrev b8j:EvS:=(g9 (j8 8 (eCl m_law_mixed (a7 (a6 0) (a7 (e2 D7 (e2 D7 (eC (.int 10)) (e2 Q0 (a6 5) (a6 2))) (a6 7)) b9)))) (Q4 6 (.l .i) C3 (T8 (a7 (e2 a4G (a6 3) (e2 G8 (a6 8) (eC (.int 2)))) (a7 (e2 G8 (e2 a8w (a6 8) (eC (.int 6))) (a6 1)) b9)))))
abbrev c2V:EvS:=(g9 (j8 6 (v6 b9)) (g9 (C6 (iR (a6 2)) (r0 7) b8j) (Q4 4 (.l (.l .i)) C3 (a6 6))))
def a6P(ns:List Int):∃(m:j5) (k:Nat),m_law_machine [.list (ns.map .int)]=cz (.list (m.map rwD))/\WF m k:=by
 have em:∀(i b:Int),0<b->0<=L6 ns i % b/\L6 ns i % b<b:=λi b hb=>⟨fF _ (by lia),eM _ hb⟩
 have a4:=em 0 4 (by decide);have a5:=em 1 5 (by decide);obtain⟨n,hn⟩:∃n:Nat,1+L6 ns 0 % 4=n:=⟨(1+L6 ns 0 % 4).toNat,by lia⟩;obtain⟨k,hk⟩:∃k:Nat,1+L6 ns 1 % 5=k:=⟨(1+L6 ns 1 % 5).toNat,by lia⟩;unfold m_law_machine;rw[B9 (by simp[VS.argsOk])];unfold b_law_machine;walk_at "evc";rw[hn,hk];refine G0 (R:=λo=>∃(m:j5) (k:Nat),o=cz (.list (m.map rwD))/\WF m k) (λZ=>∃mn:List Int,mn.length=2/\Z=(B5 ns mn n k [.none,.none,.none,.none,.none])) ?_ ?_
 ·by_cases c:L6 ns 2 % 3=0
  ·rw[aL c];have Fo:(10^(60:Int).toNat:Int)=big:=by decide
   have yD:=b4P;have x0:=b0y ns 3;have x1:L6 ns 3<2147483629:=eM _ (by decide);have hp:b1p (L6 ns 3) 7=yn:=by
    unfold b1p;simp only[aD,Ci];exact⟨⟨by decide,by decide⟩,by lia⟩
   walk_at "evc";rw[v_pow (i:=10) (j:=60) (by decide),Fo];generalize big=T at yD;walk_at "evc";rw[v_pow hp]
   try walk_at "evc"
   try rw[Y0 (i:=2) (by decide)]
   try walk_at "evc"
   try rw[v_mod (by lia)]
   try walk_at "evc"
   exact⟨_,rfl,[_,_],rfl,rfl⟩
  ·rw[aW c];walk_at "evc";exact⟨_,rfl,[0,1],rfl,rfl⟩
 rintro Z ⟨mn,Gp,rfl⟩;walk_at "evc";rw[a6j (n:=n) (by walk_at "evc") (by lia) (by lia),bS];walk_at "evc";have row:∀s:Nat,s<n->∀(rows:D) (y z:D),∃(r:List (Int×Int)) (x' y':D),Rw k n r/\(C6 (iR (a6 2)) (r0 7) b8j) (B5 ns mn n k [rows,.int s,.list [],y,z])=cz (.nx (B5 ns mn n k [rows,.int s,rwD r,x',y'])):=by
  intro s hs rows y z;walk_at "evc";rw[a6j (n:=k) (by walk_at "evc") (by lia) (by lia),bS];walk_at "evc";obtain⟨Z',h1,r,x',y',h2,rfl⟩:=E6 (n:=k) (set:=r0 7) (g:=b8j) (Z:=(B5 ns mn n k [rows,.int s,.list [],y,z]))
   (λj Z=>∃(r:List (Int×Int)) (x' y':D),Rw j n r/\Z=(B5 ns mn n k [rows,.int s,rwD r,x',y']))
   ⟨[],y,z,⟨rfl,λp hp=>(nomatch hp)⟩,rfl⟩ (by
    rintro j hj Z ⟨r,x',y',hr,rfl⟩;have Gk:(s:Int)*(k:Int)<=30*5:=by
     have:s*k<=30*5:=qY (by lia) (by lia)
     exact_mod_cast this
    have DC:0<=(s:Int)*(k:Int):=Int.mul_nonneg (by lia) (by lia);have c0:=em (10+(s:Int)*k+j) 2 (by decide);have d0:=fF (L6 ns (10+(s:Int)*k+j) / 6) (show ((n:Int))≠0 by lia);have d1:=eM (L6 ns (10+(s:Int)*k+j) / 6) (show (0:Int)<(n:Int) by lia);refine⟨_,(B5 ns mn n k [rows,.int s,rwD (r++[(mn.getD (L6 ns (10+(s:Int)*k+j) % 2).toNat 0,L6 ns (10+(s:Int)*k+j) / 6 % n)]),.int j,.int (L6 ns (10+(s:Int)*k+j))]),rfl,?_,_,_,_,hr.app d0 d1,rfl⟩;unfold b8j;walk_at "evc";rw[Y0 (i:=s) (by lia)];walk_at "evc";rw[P0 c0.1 (by lia)];walk_at "evc";unfold rwD;rw[a0L (by rw[aj,hr.1];lia),aQ];rfl)
  exact⟨r,x',y',h2,h1⟩
 refine G0 (R:=λo=>∃(m:j5) (k:Nat),o=cz (.list (m.map rwD))/\WF m k) (λZ=>∃(m:j5) (x y z u:D),Rws k n n m/\Z=(B5 ns mn n k [.list (m.map rwD),x,y,z,u])) ?_ ?_
 ·refine E6 (n:=n) (set:=r0 5) (Z:=(B5 ns mn n k [.list [],.none,.none,.none,.none])) (g:=c2V)
   (λj Z=>∃(m:j5) (x y z u:D),Rws k n j m/\Z=(B5 ns mn n k [.list (m.map rwD),x,y,z,u]))
   ⟨[],.none,.none,.none,.none,⟨rfl,λr hr=>(nomatch hr)⟩,rfl⟩ ?_
  rintro j hj Z ⟨m,x,y,z,u,hm,rfl⟩;obtain⟨r,x',y',zh,zg⟩:=row j hj (.list (m.map rwD)) z u;refine⟨_,(B5 ns mn n k [.list ((m++[r]).map rwD),.int j,rwD r,x',y']),rfl,?_,m++[r],_,_,_,_,hm.app zh,rfl⟩;unfold c2V;rw[a0w];walk_at "ev1";rw[a0w,zg];walk_at "evc";rw[a0L (by rw[aj,hm.1];lia),aQ];rfl
 rintro Z ⟨m,x,y,z,u,hm,rfl⟩;have w:WF m k:=hm.wf (by lia) (by lia) (by lia) (by lia);have h4:m.length<=4:=by rw[hm.1];lia
 rw[a0w];refine G0 (R:=λo=>∃(m:j5) (k:Nat),o=cz (.list (m.map rwD))/\WF m k) (λZ=>∃m:j5,WF m k/\Z=(B5 ns mn n k [.list (m.map rwD),x,y,z,u])) ?_ ?_
 ·walk_at "evc";by_cases c:L6 ns 7 % 2=0
  ·obtain⟨m',q1,q2⟩:=b5R ns w h4;rw[aL c];walk_at "evc";rw[q1];walk_at "evc";exact⟨_,rfl,m',q2,rfl⟩
  ·rw[aW c];walk_at "evc";exact⟨_,rfl,m,w,rfl⟩
 rintro Z ⟨m,w,rfl⟩;walk_at "evc";by_cases c:L6 ns 8 % 16=5
 ·rw[aL c];have hc:(o8 (iR (eC (.int 25))) [0,3] pt1 tT (v6 (a7 (T8 (a7 (e2 a4G (a6 2) (eCl a6b (a7 (e2 dEq (a6 0) (e2 G8 (eCl m_law_mixed (a7 (a6 1) (a7 (eC (.int 9)) b9))) (eC (.int 25)))) b9))) (a7 (e2 G8 (e2 D7 (a6 0) (eC (.int 1))) (eC (.int 25))) b9))) b9))) (B5 ns mn n k [.list (m.map rwD),x,y,z,u])=cz (.list (((aB 25).map λ(j:Nat)=>[(mn.getD (if decide ((j:Int)=L6 ns 9 % 25) then 1 else 0:Int).toNat 0,((j:Int)+1) % 25)]).map rwD)):=by
   rw[a2S (n:=25) (λ(j:Nat)=>rwD [(mn.getD (if decide ((j:Int)=L6 ns 9 % 25) then 1 else 0:Int).toNat 0,((j:Int)+1) % 25)]) (by walk_at "evc") (by decide) (by decide)]
   ·rw[bD];rfl
   ·intro j hj
    repeat (first|rw[b5t]|walk_at "evc")
    rw[P0 (by split<;>decide) (by split<;>lia)];walk_at "evc";rfl
  walk_at "evc";rw[hc];walk_at "evc";refine⟨_,1,rfl,Rws.wf (n:=25) ⟨by rw[aj,bE],λr hr=>?_⟩ (by decide) (by decide) (by decide) (by decide)⟩;obtain⟨j,_,rfl⟩:=aJ.mp hr;exact⟨rfl,λp hp=>by rw[ar.mp hp];exact⟨fF _ (by decide),eM _ (by decide)⟩⟩
 ·rw[aW c];walk_at "evc";exact⟨m,k,rfl,w⟩
def a5I{m:j5}{k:Nat}(w:WF m k){p:List Int}{s:Int}(h0:0<=s)(h1:s<m.length)(hp:∀x∈p,0<=x/\x<(k:Int))(hl:p.length<=13000) :
  G6 [.list (m.map rwD),.int s,.list (p.map .int)]=cz (.tuple [.list ((m5 m s p).1.map .int),.int (m5 m s p).2]):=by
 unfold G6;rw[B9 (by simp[VS.argsOk,imm])];unfold a7X;walk_at "ev";rw[a1T (ds:=p.map .int) (by walk_at "ev") (v7 p)];walk_at "ev";refine N2 (λZ=>∃x y:D,Z=[.list (m.map rwD),.int (m5 m s p).2,.list (p.map .int),.list ((m5 m s p).1.map .int),x,y]) ?_ ?_
 ·obtain⟨Z',h2,x,y,rfl⟩:=z7 (enc:=aR) (set:=r0 4) (xs:=p) (Z:=[.list (m.map rwD),.int s,.list (p.map .int),.list [],.none,.none])
   (g:=(g9 (j8 5 (e2 u6 (e2 dIx (a6 0) (a6 1)) (a6 4))) (g9 (Q4 3 (.l .i) C3 (e2 u6 (a6 5) (eC (.int 0)))) (j8 1 (e2 u6 (a6 5) (eC (.int 1)))))))
   (λpre Z=>∃x y:D,Z=[.list (m.map rwD),.int (m5 m s pre).2,.list (p.map .int),.list ((m5 m s pre).1.map .int),x,y]) ⟨_,_,rfl⟩ (by
    rintro pre a post e Z ⟨x,y,rfl⟩;have pS:∀b∈pre,0<=b/\b<(k:Int):=λb hb=>hp b (by rw[e];exact ao _ hb)
    have ha:=hp a (by rw[e];simp);have hs:=a1W w pre s h0 h1 pS;have hr:=w.row hs.1 hs.2;have hlen:pre.length<13000:=by have:=dH eh e;simp at this;lia
    refine⟨_,[.list (m.map rwD),.int (m5 m s (pre++[a])).2,.list (p.map .int),.list ((m5 m s (pre++[a])).1.map .int),.int a,stD (stp m (m5 m s pre).2 a)],rfl,?_,_,_,rfl⟩;walk_at "ev";rw[a2L hs.1 hs.2];walk_at "ev";rw[b2s ha.1 (by lia)];walk_at "ev";rw[a0L (by rw[aj,a5z];lia)];walk_at "ev";rw[a0R,aQ];rfl)
  exact⟨_,h2,_,_,rfl⟩
 ·rintro Z ⟨x,y,rfl⟩;walk_at "ev"
def b2N(C:Can L k)(hA:AllMet L k W)(j:Nat):j<L.length->(j:Int)∈W.map (·.1):=by
 induction j using Nat.strongRecOn with
 |_ j ih=>
  intro hj;have h1:=C.lead j hj;have hc:=b2D hj;have hp:=C.pre (Zq:=(aB j).flatMap (nxs L k)) (Y:=(j::(aB (L.length-j-1)).map (λi=>j+1+i)).flatMap (nxs L k)) (by rw[hc,eD]);have hm:(j:Int)∈dkk [0] ((aB j).flatMap (nxs L k)):=by rw[hp];exact b8a.mpr ⟨by lia,by lia⟩
  rcases (N6 _ _).mp hm with z|z
  ·have:(j:Int)=0:=by simpa using z
   rw[this];exact aJ.mpr ⟨_,hA.zero,rfl⟩
  ·obtain⟨i,hi,h2⟩:=cO.mp z;obtain⟨a,ha,h3⟩:=aJ.mp h2;have gZ:=bO.mp hi;obtain⟨⟨t,p⟩,sI,jX⟩:=aJ.mp (ih i gZ (by lia));have jX:t=(i:Int):=jX;subst jX;obtain⟨q,hq,_⟩:=hA.next sI (bO.mp ha);exact aJ.mpr ⟨_,hq,h3⟩
theorem b5S(k:Nat):∀n,∀r∈lvR k n,∀a∈r,0<=a/\a<(k:Int)
 |0,r,hr,a,ha=>by
  have:r=[]:=by simpa[lvR]using hr
  rw[this]at ha;cases ha
 |n+1,r,hr,a,ha=>by
  have sG:r∈lng k (lvR k n):=hr;unfold lng at sG;obtain⟨q,hq,h2⟩:=cO.mp sG;obtain⟨x,hx,rfl⟩:=aJ.mp h2;have:=bO.mp hx;rcases av.mp ha with z|z
  ·exact b5S k n q hq a z
  ·rw[ar.mp z];lia
theorem b5T(k:Nat):∀n,∀r∈H9 k n,∀a∈r,0<=a/\a<(k:Int)
 |0,r,hr=>b5S k 0 r hr
 |n+1,r,hr=>by
  have sG:r∈H9 k n++lvR k (n+1):=hr;rcases av.mp sG with z|z
  ·exact b5T k n r z
  ·exact b5S k (n+1) r z
def GoodP(k:Nat)(l:List (List Int)):Prop:=∀p∈l,(∀a∈p,0<=a/\a<(k:Int))/\p.length<=100
def b5U:1<=(a1w p l).length:=by
 have:p∈a1w p l:=a4t.mpr (.inr rfl);exact List.length_pos_of_mem this
theorem b5V(k:Nat):∀n,H9 k n≠[]
 |0,h=>by cases h
 |n+1,h=>b5V k n (List.append_eq_nil_iff.mp h).1
def GoodP.ins{k:Nat}{l:List (List Int)}(h:GoodP k l){p:List Int}(h1:∀a∈p,0<=a/\a<(k:Int))(h2:p.length<=100):GoodP k (a1w p l):=λq hq=>by
 rcases a4t.mp hq with z|z
 ·exact h q z
 ·rw[z];exact⟨h1,h2⟩
theorem b0Z(k:Nat):∀n,rF (k:Int) n*k+1=rF k n+((k^(n+1):Nat):Int)
 |0=>by
  show (1:Int)*k+1=1+((k^1:Nat):Int);rw[Nat.pow_one];lia
 |n+1=>by
  have h2:(rF (k:Int) n*k+1)*(k:Int)=rF k n*k+((k^(n+1):Nat):Int)*k:=by rw[b0Z k n,Int.add_mul]
  show (rF (k:Int) n*k+1)*(k:Int)+1=rF k n*k+1+((k^(n+1+1):Nat):Int);rw[h2,Nat.pow_succ k (n+1),qo];lia
theorem a8h(k:Nat):∀n,((H9 k n).length:Int)=rF k n
 |0=>rfl
 |n+1=>by
  show ((H9 k n++lvR k (n+1)).length:Int)=rF k n*k+1;rw[az,a2h,b0Z,Int.natCast_add,a8h k n]
def c1b:ddP (a++xn::b)=ddP (a++b):=by
 unfold ddP;rw[gF,gF];rfl
def b5W{m:j5}{k D:Nat}(w:WF m k){s:Int}(s0:0<=s)(s1:s<m.length):(mks m D s).length<=max 1 (m.length-1):=by
 have h:(a4w m D s).length+1<=m.length:=by
  obtain⟨a,b,e⟩:=List.append_of_mem (show xn∈(aB m.length).map (λt:Nat=>a0F m D s t) from aJ.mpr ⟨s.toNat,bO.mpr (by lia),by rw[mM s0];exact (a9K w s0 s1 s0 s1).mpr rfl⟩);have hl:=dH eh e;rw[aj,bE,az,aY]at hl;have:=a6N (a++b);rw[az]at this;unfold a4w;rw[e,c1b];lia
 unfold mks mkL;by_cases c:a4w m D s=[]
 ·rw[aE c,bN];lia
 ·rw[aM c,(C2 _).length_eq];lia
abbrev pbT(L:j5)(e:Nat)(A B:D)(t:List D):List D:=.list (L.map rwD)::.int (e:Nat)::A::B::t
abbrev eT(l:List (List Int)):VS.D:=.dict (T5 (λ_=>cK yn) l)
def q2:EvS:=(J0 4 yn (X4 (eI (U0 (eI (U0 (a6 6) (a6 7))) (a6 8)))) (eC (.bool yn)))
def q1:EvS:=C6 (iL (e2 dIx (a6 2) (e2 dIx (eCl G6 (a7 (a6 0) (a7 (a6 5) (a7 (a6 7) b9)))) (eC (.int 1))))) (r0 8) q2
def q0:EvS:=C6 (iL (a6 3)) (r0 7) q1
def b2O{L:j5}{k:Nat}(C:Can L k){e:Nat}(he:e<=30)(jI:szF L.length k e<=3000):∃ps:List (List Int),C8 [.list (L.map rwD),.int (e:Nat)]=cz (.list (ps.map iD))/\GoodP k ps/\(ps.length:Int)<=szF L.length k e/\1<=ps.length:=by
 have w:=C.wf;have hle:=w.le;have oP:=w.pos;obtain⟨D,zw,hD,mS⟩:=b5P w;obtain⟨R,hR⟩:∃R,(H9 k (e+1)).length=R:=⟨_,rfl⟩;obtain⟨mk,t_⟩:∃mk,max 1 (L.length-1)=mk:=⟨_,rfl⟩;have By:∀t:Int,0<=t->t<L.length->(mks L D t).length<=mk:=λt t0 t1=>by rw[<-t_];exact b5W w t0 t1
 have hz:szF L.length k e=((mk*R*L.length:Nat):Int):=by
  have e1:=a8h k (e+1);rw[hR]at e1;unfold szF;rw[show ((e:Int)+1).toNat=e+1 by lia,<-e1,show (if (1:Int)<(L.length:Nat) then ((L.length:Nat):Int)-1 else 1)=(mk:Int) by split<;>lia,qo,qo]
  ac_rfl
 rw[hz]at jI ⊢;have hB:mk*R*L.length<=3000:=by lia
 have wq:k^(e+1)<=3125:=by
  have h1:(H9 k e++lvR k (e+1)).length=R:=hR;rw[az,a2h]at h1;have h2:R<=mk*R:=Nat.le_mul_of_pos_left R (by lia);have h3:mk*R<=mk*R*L.length:=Nat.le_mul_of_pos_right _ oP;lia
 generalize hQ:mk*R=Q at hB ⊢;obtain⟨W,hA,hw⟩:=b8d w;have xJ:=hA.len;have e0:(rowAt L 0).length=k:=w.row (by lia) (by lia);unfold C8;rw[B9 (by simp[VS.argsOk,imm])];unfold a0D
 try walk_at "ev"
 rw[zw]
 try walk_at "ev"
 have wR:E9 [.list (L.map rwD)]=cz (.int (k:Nat)):=by
  unfold E9;rw[B9 (by simp[VS.argsOk])];unfold a1Z
  try walk_at "ev"
  rw[a2L (by lia) (by lia)]
  try walk_at "ev"
  rw[e0]
  try rfl
 rw[wR]
 try walk_at "ev"
 rw[show ((e:Nat):Int)+1=((e+1:Nat):Int) by lia,a9N w.k1 w.k5 (by lia) wq]
 try walk_at "ev"
 have Ds:eCl a0W (a7 (a6 0) b9) [.list (L.map rwD),.int (e:Nat),.list ((aB L.length).map λ(s:Nat)=>cF ((mks L D s).map iD)),.list ((H9 k (e+1)).map lD),.dict [],.none,.none,.none,.none]=cz (.list (b5J W L.length)):=by
  try walk_at "ev"
  exact hw
 rw[c0S Ds]
 try walk_at "ev"
 unfold b5J;rw[a1v];have Bx:∀t:Int,0<=t->t<L.length->dIx (.list ((aB L.length).map λ(s:Nat)=>cF ((mks L D s).map iD))) (.int t)=cz (.list ((mks L D t).map iD)):=λt t0 t1=>by
  show L2.atI ((aB L.length).map λ(s:Nat)=>cF ((mks L D s).map iD)) t=_;rw[a1I t0 (by rw[aj,bE];exact t1),dC,nI,show ((t.toNat:Nat):Int)=t by lia]
 have hB:lL (cz (.list ((H9 k (e+1)).map lD)))=cz ((H9 k (e+1)).map lD):=rfl;generalize cF ((aB L.length).map λ(s:Nat)=>cF ((mks L D s).map iD))=A at Bx ⊢;generalize cF ((H9 k (e+1)).map lD)=B at hB ⊢;refine G0 (R:=λo=>∃ps:List (List Int),o=cz (.list (ps.map iD))/\GoodP k ps/\(ps.length:Int)<=((Q*L.length:Nat):Int)/\1<=ps.length) (λZ=>∃(l:List (List Int)) (x y z u:VS.D),GoodP k l/\l.length<=Q*L.length/\1<=l.length/\Z=(pbT L e A B [eT l,x,y,z,u])) ?_ ?_
 ·have inner:∀(s:Nat),s<L.length->∀(p r:List Int),(∀a∈p,0<=a/\a<(k:Int))->p.length<=30->r∈H9 k (e+1)->∀(l:List (List Int)),GoodP k l->l.length<70000->∀x:VS.D,∃l' x',q1 (pbT L e A B [eT l,.int s,iD p,lD r,x])=cz (.nx (pbT L e A B [eT l',.int s,iD p,lD r,x']))/\GoodP k l'/\l'.length<=l.length+mk/\1<=l'.length:=by
   intro s hs p r hp gn hr l g hl x;have xN:=b5T k _ r hr;have zc:=b0X k _ r hr;have oU:=a1W w r s (by lia) (by lia) xN;generalize ht:(m5 L s r).2=t at oU;have Dt:e2 dIx (a6 2) (e2 dIx (eCl G6 (a7 (a6 0) (a7 (a6 5) (a7 (a6 7) b9)))) (eC (.int 1))) (pbT L e A B [eT l,.int s,iD p,lD r,x])=cz (.list ((mks L D t).map iD)):=by
    have h2:G6 [.list (L.map rwD),.int s,lD r]=cz (.tuple [.list ((m5 L s r).1.map .int),.int (m5 L s r).2]):=a5I w (by lia) (by lia) xN (by lia)
    try walk_at "ev"
    rw[h2]
    try walk_at "ev"
    rw[ht];exact Bx t oU.1 oU.2
   unfold q1;rw[b3J,b2q,Dt];show ∃l' x',W4 (r0 8) q2 ((mks L D t).map iD) _=_/\_;have By:=By t oU.1 oU.2;obtain⟨Z',g1,l',x',q1,q2,q3,rfl⟩:=z7 (enc:=iD) (set:=r0 8) (xs:=mks L D t) (g:=q2) (Z:=(pbT L e A B [eT l,.int s,iD p,lD r,x]))
    (λpre Z=>∃(l':List (List Int)) (x':VS.D),GoodP k l'/\l'.length<=l.length+pre.length/\(pre=[]\/1<=l'.length)/\Z=(pbT L e A B [eT l',.int s,iD p,lD r,x'])) ⟨l,x,g,aA _,.inl rfl,rfl⟩ (by
     rintro pre q post e1 Z ⟨l',x',q1,q2,_,rfl⟩;have hq:q∈mks L D t:=by rw[e1];simp
     obtain⟨Bs,Gm⟩:=c0Z w oU.1 oU.2 hq;have vX:pre.length<(mks L D t).length:=by rw[e1];simp
     have zY:eI (U0 (eI (U0 (a6 6) (a6 7))) (a6 8)) (pbT L e A B [eT l',.int s,iD p,lD r,iD q])=cz (.list ((p++r++q).map .int)):=by
      rw[a5w,b0s,a5w,b0s];show lIs (b2r (lIs (b2r (cz (.list (p.map .int))) (cz (.list (r.map .int))))) (cz (.list (q.map .int))))=_;rw[a3Y (by lia),a6x,a3Y (by rw[az];lia),a6x]
     have nu:=a8e (p:=p++r++q) (l:=l');refine⟨_,(pbT L e A B [eT (a1w (p++r++q) l'),.int s,iD p,lD r,iD q]),rfl,?_,a1w (p++r++q) l',iD q,q1.ins (λa ha=>?_) (by rw[az,az];lia),by rw[az,bN];lia,.inr b5U,rfl⟩
     ·show J0 4 yn _ _ (pbT L e A B [eT l',.int s,iD p,lD r,iD q])=_;rw[b0T (g:=(λ_=>cK yn)) (a:=p++r++q) (l:=l') rfl (a6H (ds:=(p++r++q).map .int) zY (v7 _)) rfl (by lia)];rfl
     ·rcases av.mp ha with z|z
      ·rcases av.mp z with z|z
       ·exact hp a z
       ·exact xN a z
      ·exact Bs a z)
   exact⟨l',x',g1,q1,by lia,q3.resolve_left (c1a w t)⟩
  have middle:∀(s:Nat),s<L.length->∀(p:List Int),(∀a∈p,0<=a/\a<(k:Int))->p.length<=30->∀(l:List (List Int)),GoodP k l->l.length+Q<60000->∀y x:VS.D,∃l' y' x',q0 (pbT L e A B [eT l,.int s,iD p,y,x])=cz (.nx (pbT L e A B [eT l',.int s,iD p,y',x']))/\GoodP k l'/\l'.length<=l.length+Q/\1<=l'.length:=by
   intro s hs p hp gn l g hl y x;unfold q0;rw[b3J,b2q,show a6 3 (pbT L e A B [eT l,.int s,iD p,y,x])=cz B from rfl,hB];show ∃l' y' x',W4 (r0 7) q1 ((H9 k (e+1)).map lD) _=_/\_;obtain⟨Z',g1,l',y',x',q1,q2,q3,rfl⟩:=z7 (enc:=lD) (set:=r0 7) (xs:=H9 k (e+1)) (g:=q1) (Z:=(pbT L e A B [eT l,.int s,iD p,y,x]))
    (λpre Z=>∃(l':List (List Int)) (y' x':VS.D),GoodP k l'/\l'.length<=l.length+mk*pre.length/\(pre=[]\/1<=l'.length)/\Z=(pbT L e A B [eT l',.int s,iD p,y',x'])) ⟨l,y,x,g,aA _,.inl rfl,rfl⟩ (by
     rintro pre r post e1 Z ⟨l',y',x',q1,q2,_,rfl⟩;have hr:r∈H9 k (e+1):=by rw[e1];simp
     have vX:pre.length<(H9 k (e+1)).length:=by rw[e1];simp
     have vW:mk*pre.length<=mk*R:=mK _ (by lia);obtain⟨l2,x2,i1,i2,i3,i4⟩:=inner s hs p r hp gn hr l' q1 (by lia) x';exact⟨_,_,rfl,i1,l2,lD r,x2,i2,by rw[az,bN,uD];lia,.inr i4,rfl⟩)
   rw[hR,hQ]at q2;exact⟨l',y',x',g1,q1,q2,q3.resolve_left (b5V k _)⟩
  obtain⟨Z',g1,l',x',y',z',u',q1,q2,q3,rfl⟩:=z7 (enc:=λ(a:Nat)=>dw [.int (a:Int),wyD W a]) (set:=a3r 5 6) (xs:=aB L.length) (g:=q0) (Z:=(pbT L e A B [.dict [],.none,.none,.none,.none]))
   (λpre Z=>∃(l':List (List Int)) (x y z u:VS.D),GoodP k l'/\l'.length<=Q*pre.length/\(pre=[]\/1<=l'.length)/\Z=(pbT L e A B [eT l',x,y,z,u])) ⟨[],.none,.none,.none,.none,λp hp=>(nomatch hp),cG _,.inl rfl,rfl⟩ (by
    rintro pre s post e1 Z ⟨l',x,y,z,u,q1,q2,_,rfl⟩;have hs:s<L.length:=bO.mp (by rw[e1];simp);have vX:pre.length<L.length:=by have:=dH eh e1;simp at this;lia
    have vW:Q*(pre.length+1)<=Q*L.length:=mK _ (by lia);rw[uD]at vW;obtain⟨⟨t,p⟩,sI,jX⟩:=aJ.mp (b2N C hA s hs);have jX:t=(s:Int):=jX;subst jX;have D_:=hA.leads p.length (aA _) sI;have xO:=hA.ql _ sI;obtain⟨l2,y2,x2,i1,i2,i3,i4⟩:=middle s hs p D_.2 (by have:p.length<=W.length:=xO;lia) l' q1 (by lia) z u;refine⟨(pbT L e A B [eT l',.int s,iD p,z,u]),_,?_,i1,l2,_,_,_,_,i2,by rw[az,bN,uD];lia,.inr i4,rfl⟩;rw[c0Y hA.nodup sI];rfl)
  rw[bE]at q2;exact⟨_,g1,l',x',y',z',u',q1,q2,q3.resolve_left (λz=>by have:=dH eh z;rw[bE,gi]at this;lia),rfl⟩
 ·rintro Z ⟨l,x,y,z,u,g,hl,h1,rfl⟩;refine⟨W5 l,?_,λp hp=>g p ((C2 l).mem_iff.mp hp),by rw[(C2 l).length_eq];lia,by rw[(C2 l).length_eq];exact h1⟩;have hc:(o8 (iI (iL (a0Q a0V (a6 4)))) [] pt1 tT (eI (V6 (a6 0)))) (pbT L e A B [eT l,x,y,z,u])=cz (.list ((W5 l).map iD)):=by
   refine P6 (enc:=E7) (xs:=W5 l) iD ?_ (by rw[(C2 l).length_eq];lia) λp _=>⟨[E7 p],rfl,?_⟩
   ·rw[a1T (ds:=(W5 l).map E7) ?_ (m7 _ a8g _)];rw[b2q,a8f (g:=(λ_=>cK yn)) (l:=l) rfl (by lia) λp _=>b0U p];rfl
   ·have hi:=v7 p;show eI (V6 (a6 0)) [.tuple (p.map .int)]=_;walk_at "ev"
  try walk_at "ev"
  rw[hc]
  try rfl
def a5J(w:WF m k):E9 [.list (m.map rwD)]=cz (.int (k:Nat)):=by
 have oP:=w.pos;have e0:(rowAt m 0).length=k:=w.row (by lia) (by lia);unfold E9;rw[B9 (by simp[VS.argsOk])];unfold a1Z
 try walk_at "ev"
 rw[a2L (by lia) (by lia)]
 try walk_at "ev"
 rw[e0]
 try rfl
def a5K(h1:1<=M)(Al:M<=30):L4 [.int M,.int 30]=cz .none:=by
 unfold L4;rw[c2B (by simp[VS.argsOk,imm])];unfold a2z
 try walk_at "ev"
 rw[show A9 [.int M]=cz (.bool yn) by unfold A9;rw[B9 (by simp[VS.argsOk])];unfold a0T;walk_at "ev"]
 try walk_at "ev"
 rw[aL h1]
 try walk_at "ev"
 rw[aL Al]
 try walk_at "ev"
 try rfl
def b2P{m:j5}{k:Nat}(w:WF m k){L:j5}(hL:N4 [.list (m.map rwD)]=cz (.list (L.map rwD)))(C:Can L k){M:Int}{e:Nat}(M1:1<=M)(uF:M<=30)(he:(e:Int)=max (M-(L.length:Int)) 0)(jI:szF L.length k e<=3000)
  {ps:List (List Int)} (xP:C8 [.list (L.map rwD),.int (e:Nat)]=cz (.list (ps.map iD))) (g:GoodP k ps) (hl:ps.length<65536) :
  a4e [.list (m.map rwD),.int M]=cz (.list (ps.map λp=>dw [iD p,iD (m5 m 0 p).1])):=by
 have EZ:=C.wf.le;have BP:=C.wf.pos;have oP:=w.pos;have k1:=w.k1;have k5:=w.k5;unfold a4e;rw[B9 (by simp[VS.argsOk])];unfold b4Y
 try walk_at "ev"
 rw[a5K M1 uF]
 try walk_at "ev"
 rw[hL]
 try walk_at "ev"
 rw[a4l,<-he]
 try walk_at "ev"
 rw[a5J w]
 try walk_at "ev"
 rw[b0Y _ _ _ (by lia) (by lia) (by lia) (by lia) (by lia) (by lia)]
 try walk_at "ev"
 rw[aW (by lia)]
 try walk_at "ev"
 rw[xP]
 try walk_at "ev"
 rw[P6 (enc:=iD) (xs:=ps) (λp=>dw [iD p,iD (m5 m 0 p).1]) (by try walk_at "ev") (by lia) λp hp=>⟨[iD p],rfl,?_⟩]
 ·try rfl
 ·show T8 (a7 (a6 0) (a7 (e2 dIx (eCl G6 (a7 (a6 1) (a7 (eC (.int 0)) (a7 (a6 0) b9)))) (eC (.int 0))) b9)) [iD p,.list (m.map rwD)]=_
  try walk_at "ev"
  rw[a5I w (by lia) (by lia) (g p hp).1 (by have:=(g p hp).2;lia)]
  try walk_at "ev"
  try rfl
end Prog
namespace VS
open L2
def b1a(h:argsOk us ds=yn):fnR us n r ds=r (ds++aP n .none):=aE h
def b5X{fc:EvT}{r1 r2:EvR}{Z:List D}{b:Bool}(h:fc Z=cz b):rIf fc r1 r2 Z=if b then r1 Z else r2 Z:=by unfold rIf;rw[h];rfl
def c1c{Z:List D}(h:r1 Z=cz n):rOr r1 r2 Z=cz n:=by unfold rOr;rw[h]
def c1d{Z:List D}(h:r1 Z=xn):rOr r1 r2 Z=r2 Z:=by unfold rOr;rw[h]
def b8k{L:List bA}{j:Nat}{g gh:EvS}{r:EvR}{Z:List D}{n:bA}{d:D}(h:r Z=cz n)(hc:L.contains n=yn)(hg:gh (Z.set j (.str n))=cz (.rt d)):a7N L j g r gh Z=cz (.rt d):=by
 unfold a7N;rw[h];dsimp only;rw[aE hc,hg];rfl
end VS
namespace VS
def a6Q{Z Z':List D}(h:f Z=cz (.nx Z')):a5v f r Z=r Z':=by unfold a5v;rw[h];rfl
end VS
namespace Prog
open L2 VS
def a5L(i:Int):A9 [.int i]=cz (.bool yn):=by
 unfold A9;rw[B9 (by simp[VS.argsOk])];unfold a0T;walk_at "ev"
def BadS(x:D):Prop:=(∃s:Int,x=.int s/\¬ (1<=s/\s<=30))\/A9 [x]=cz (.bool yH)
def BadS.need{x:D}(h:BadS x):v9 [x,.int 30]=cz ("NoSize":bA):=by
 unfold v9;rw[b1a (by simp[VS.argsOk,imm])];unfold U7;rw[b5X (b:=yn) ?_]
 ·rfl
 rcases h with⟨s,rfl,hs⟩|h
 ·have c2:1<=s->decide (s<=30)=yH:=λc=>aW λz=>hs ⟨c,z⟩
  by_cases c:1<=s<;>repeat (first|rw[a5L]|rw[aL c]|rw[c2 c]|rw[aW c]|walk_at "ev")
 ·repeat (first|rw[h]|walk_at "ev")
def b2Q{M:Int}(h1:1<=M)(Al:M<=30):v9 [.int M,.int 30]=xn:=by
 unfold v9;rw[b1a (by simp[VS.argsOk,imm])];unfold U7;rw[b5X (b:=yH) (by repeat (first|rw[a5L]|rw[aL h1]|rw[aL Al]|walk_at "ev"))];rfl
def b5Y{c:Int}(c0:0<=c):∃x,m_law_else [.int c]=cz x/\BadS x:=by
 unfold m_law_else;rw[B9 (by simp[VS.argsOk,imm])];unfold b_law_else;have e1:(10^(60:Int).toNat:Int)=big:=by decide
 have e2:(10^(20:Int).toNat:Int)=100000000000000000000:=by decide
 have yD:=b4P;walk_at "ev";rw[v_pow (i:=10) (j:=60) (by decide),e1,v_pow (i:=10) (j:=20) (by decide),e2];generalize big=T at yD;walk_at "ev";have hj:c % 13=0\/c % 13=1\/c % 13=2\/c % 13=3\/c % 13=4\/c % 13=5\/c % 13=6\/c % 13=7\/c % 13=8\/c % 13=9\/c % 13=10\/c % 13=11\/c % 13=12:=by lia
 rcases hj with h|h|h|h|h|h|h|h|h|h|h|h|h<;>rw[h]<;>first|exact⟨_,rfl,.inl ⟨_,rfl,by lia⟩⟩|exact⟨_,rfl,.inr rfl⟩
section
variable {m:j5}{x:D}
def a4y{b:Bool}{n:bA}(h:a2a [.list (m.map rwD),x]=cz n)(hn:n=if b then ("NoSize":bA) else ("TooMuch":bA)):m_law_refused [.list (m.map rwD),x,.bool b]=cz (.bool yn):=by
 subst hn;unfold m_law_refused;rw[B9 (by simp[VS.argsOk,imm])];unfold b_law_refused;have hr:rCl a2a (a7 (a6 0) (a7 (a6 1) b9)) [.list (m.map rwD),x,.bool b,.none]=cz (if b then ("NoSize":bA) else ("TooMuch":bA)):=h;show a3w (g9 _ _ [.list (m.map rwD),x,.bool b,.none])=_;cases b<;>rw[a0w,b8k (d:=.bool yn) hr rfl rfl]<;>rfl
def a8i(h:BadS x):m_law_refused [.list (m.map rwD),x,.bool yn]=cz (.bool yn):=a4y (b:=yn) (n:="NoSize") (by
 unfold a2a;rw[b1a (by simp[VS.argsOk])];unfold a6C;exact c1c (show v9 [x,.int 30]=_ from h.need)) rfl
def a6R{k:Nat}(w:WF m k){L:j5}(hL:N4 [.list (m.map rwD)]=cz (.list (L.map rwD)))(BP:1<=L.length)(EZ:L.length<=30){M:Int}(M1:1<=M)(uF:M<=30)(jI:3000<szF L.length k (max (M-(L.length:Int)) 0)):m_law_refused [.list (m.map rwD),.int M,.bool yH]=cz (.bool yn):=a4y (b:=yH) (n:="TooMuch") (by
 have k1:=w.k1;have k5:=w.k5;unfold a2a;rw[b1a (by simp[VS.argsOk])];unfold a6C;have hn:rCl v9 (a7 (a6 1) (a7 (eC (.int 30)) b9)) [.list (m.map rwD),.int M,.none,.none,.none]=xn:=b2Q M1 uF;show rOr _ _ [.list (m.map rwD),.int M,.none,.none,.none]=_;rw[c1d hn,a6Q (Z':=[.list (m.map rwD),.int M,.none,.none,.none]) (by repeat (first|rw[a5K M1 uF]|walk_at "ev")),
  a6Q (Z':=[.list (m.map rwD),.int M,.list (L.map rwD),.none,.none]) (by repeat (first|rw[hL]|walk_at "ev")),
  a6Q (Z':=[.list (m.map rwD),.int M,.list (L.map rwD),.int (max (M-(L.length:Int)) 0),.none]) (by repeat (first|rw[a4l]|walk_at "ev")),
  b5X (b:=yn) (by repeat (first|rw[a5J w]|rw[b0Y _ _ _ (by lia) (by lia) (by lia) (by lia) (by lia) (by lia)]|rw[aL jI]|walk_at "ev"))]
 rfl) rfl
end
def eqM{m:j5}:dEq (.list (m.map rwD)) (.list (m.map rwD))=cz (.bool yn):=c2t (b4Q m) (a9q m)
def law_true(ns:List Int)(qy:ns.length<=63):m_law [.list (ns.map .int)]=cz (.bool yn):=by
 obtain⟨m,k,zw,w⟩:=a6P ns;obtain⟨L,hL,CL,SL,Lm⟩:=b2G w;have hle:=w.le;have oP:=w.pos;have k1:=w.k1;have k5:=w.k5;have BP:=CL.wf.pos;have e0:(rowAt m 0).length=k:=w.row (by lia) (by lia);obtain⟨M,hM,M1,uF⟩:=b2M ns (s:=(L.length:Nat)) (a:=(k:Nat)) (by lia) (by lia) (by lia) (by lia);obtain⟨x,hx,Dq⟩:=b5Y (b0y ns 6);have jI:=a4x (L.length:Nat) (k:Nat) M (by lia) (by lia) (by lia) (by lia) (by lia);obtain⟨e,he⟩:∃e:Nat,(e:Int)=max 0 (M-(L.length:Int)):=⟨(M-(L.length:Int)).toNat,by lia⟩;have tZ:max (M-(L.length:Int)) 0=e:=by lia
 rw[<-he]at jI;have h1:=a8i (m:=m) Dq;unfold m_law;rw[B9 (by simp[VS.argsOk])];unfold b_law;have ha:=a2L (m:=m) (s:=0) (by lia) (by lia)
 repeat (first|rw[zw]|rw[c0M (m:=m) (by walk_at "evc") (by lia)]|rw[hL]|rw[hx]|rw[h1]|rw[ha]|rw[e0]|rw[hM]|rw[jI]|walk_at "evc")
 by_cases c:3000<szF (L.length:Nat) (k:Nat) (e:Nat)
 ·have h2:=a6R w hL (by lia) (by lia) M1 uF (by rw[tZ];exact c)
  repeat (first|rw[aL c]|rw[h2]|rw[eqM]|walk_at "evc")
 ·obtain⟨ps,p1,p2,p3,p4⟩:=b2O CL (e:=e) (by lia) (by lia);have b1:=b2P w hL CL M1 uF tZ.symm (by lia) p1 p2 (by lia);have p0:=aL (show (0:Int)<(ps.length:Nat) by lia)
  repeat (first|rw[aW c]|rw[b1]|rw[p0]|rw[aL p3]|rw[eqM]|walk_at "evc")
def c1e{l:W.OpenLaw}{w:bV}{K:W.Frag}{mg:bA->Option ak}{fa:aw}(zR:mg "law"=cz (.ref fa))(b:Bn K mg)(kP:(C4 K "ways_by_state").isSome=yn)
  : ∃fd:dU,(∀(s:au) (v:ak),oK s fd ⟨[v],[]⟩ [("_law_script",v)])/\∀base:cB,K.In base->base.Ns bp mg->FnOk l.prog w K mg base CX0 9 fa fd ["_law_script"] (spD K 1 m_law .i):=c0C zR b.d32 λbase KB GB fd F=>by
 have B:Bk l.prog w K mg base:=⟨b⟩;have cE:=ok_law_mixed B;have jN:=ok_law_twice B cE.u;have iU:=ok_law_machine B cE.u jN.u;have gv:=ok_law_size B;have kn:=ok_law_most B cE.u gv.u;have gU:=a7W B;have hX:=a4O B gU.u;have gB:=a6y B gU.u;have gw:=a0s B;have er:=a4P B;have hJ:=a4b B er.u;have gC:=a6z B hJ.u;have jM:=a6A B;have eW:=a1X B jM.u kP KB GB;have kY:=a9r B eW.u;have iu:=b4S B gw.u er.u gC.u kY.u;have kZ:=b7I B;have iT:=a4c B kZ.u;have ig:=a1Y B;have iz:=a2M B er.u ig.u;have jn:=a4Q B iz.u;have nD:=b4U B gC.u jn.u;have nB:=b4V B iT.u nD.u;have gT:=a1r B;have kX:=a9t B gT.u;have fU:=a9u B;have oX:=b7J B eW.u;have hU:=b2t B;have gd:=a4d B kZ.u nB.u kX.u fU.u oX.u hU.u;have gD:=a6B B;have mh:=b4Z B gB.u iu.u fU.u hU.u gd.u gD.u hX.u;have k_:=b7K B gB.u iu.u fU.u hU.u gd.u gD.u hX.u;have g_:=ok_law_refused B k_.u mh.u;have ko:=ok_law_else B;exact ok_law B cE.u iU.u gv.u kn.u iu.u k_.u g_.u ko.u mh.u F
end Prog
namespace PySem.W.Fast
def tw8134796747794015167:=0
def tw9915730545460371480:=0
def tw7554423838067178622:=0
def tw12538310527559666609:=0
def tw3351954659894026352:=0
def tw12109577846357572306:=0
def tw13674449085477160637:=0
def tw1983419857222675574:=0
def tw2112310883604695130:=0
def tw12514546052166890459:=0
def tw1405493852954789512:=0
def tw873556367066022642:=0
def tw6695253375476192355:=0
def tw1632805873044033052:=0
def tw11752835119295653314:=0
def tw12756444705190183478:=0
def tw1027259294917603620:=0
def tw9214651113358141226:=0
def tw13057682512938192860:=0
def tw5392291765830114278:=0
def tw4411114577762140244:=0
def tw15936077194867755906:=0
def tw12350730257112328608:=0
def tw16454926514837580134:=0
def tw3472237501413490777:=0
def tw4189687300379209500:=0
def tw599814414232190563:=0
def tw17431915617466383754:=0
def tw9977407157381496861:=0
def tw4533618384669244149:=0
def tw3077095341646419570:=0
def tw10760793950999472658:=0
def tw787480674372935680:=0
def tw1331471447657831942:=0
def tw15429008337636057608:=0
def tw10586627200249264315:=0
def tw7718786418523141441:=0
def tw148604188373721093:=0
def tw14663175523107683943:=0
def tw17381856553634522805:=0
def tw3679159348395791925:=0
def tw5999969692499391955:=0
def tw15478054389805325018:=0
def tw16736490481225221067:=0
def tw6707713898432932064:=0
def tw4816429344036218640:=0
def tw15957757251497164319:=0
def tw17003499546971649921:=0
def tw17557815356183395137:=0
def tw6996507285571853916:=0
def tw1660805807951037783:=0
def tw4608864203970595423:=0
def tw12707024587622114522:=0
def tw7579534137587144603:=0
def tw9301178510373826500:=0
def tw13327676830491607323:=0
def tw13062448889236789562:=0
def tw14674052907638385260:=0
def tw6314477809480864332:=0
def tw17489646313678427691:=0
def tw4098909084936205493:=0
def tw9780462072011714267:=0
def tw16165741266665855607:=0
def tw1236090357421332271:=0
def tw12858118992229106127:=0
def tw17531056734608368337:=0
def tw15470061711158575071:=0
def tw13543988279015239752:=0
def tw7904874898452223914:=0
def tw17749053997213486877:=0
def tw10189097055346613461:=0
def tw17304111047090751877:=0
def tw17913655440592142519:=0
def tw18293816751196855032:=0
def tw952265281062454709:=0
def tw18305079376745386267:=0
def tw9294571364927554845:=0
def tw1127629067616177761:=0
def tw4381248982914573876:=0
def tw10443199864449911411:=0
def tw12814740354184364012:=0
def tw3548515927561922076:=0
def tw838735573121169303:=0
def tw7016173067956601106:=0
def tw6119113287212340948:=0
def tw2982977006126002588:=0
def tw6958665698801708907:=0
def tw13082399940152961432:=0
def tw728986577659829890:=0
def tw17434453384747917375:=0
def tw14562636231844756184:=0
def tw9976084180818218288:=0
def tw7702758667701589513:=0
def tw2770904065215327767:=0
def tw2762592867941327870:=0
def tw14888607608622141613:=0
def tw1678592564369213242:=0
def tw2275147239272349965:=0
def tw9144233600732478579:=0
def tw5516925100605058809:=0
def tw8585062535603842454:=0
def tw12906437344540770221:=0
def tw12954961222890466523:=0
def tw16098692310991403298:=0
def tw8780420616429634862:=0
def tw7360156422619569561:=0
def tw11852437975944383826:=0
def tw14300688113964081277:=0
def tw10697181363545064033:=0
def tw11188798924045796425:=0
def tw6577762524029016904:=0
def tw6690933978582487416:=0
def tw14093523392018699908:=0
def tw10661740905973371695:=0
def tw1188812304370637652:=0
def tw16975552294167819841:=0
def tw9032796747714434699:=0
def tw5752747821693600445:=0
def tw17258282373765413197:=0
def tw12466001843397930929:=0
def tw8599591460577630255:=0
def tw1372158719888792882:=0
def tw16883312957542123903:=0
def tw5012170015931572747:=0
def tw4239377235476858283:=0
def tw10311581472825987376:=0
def tw14776480763018777301:=0
def tw17409619554398582087:=0
def tw11065453922719742847:=0
def tw10988032472079162454:=0
def tw5227781096406360188:=0
def tw8462661292901997672:=0
def tw9264519492754114526:=0
def tw8258571119646693231:=0
def tw4197446686896408777:=0
def tw3432239835907868814:=0
def tw6134708897102245100:=0
def tw11476891125597272261:=0
def tw2693899824176666422:=0
def tw9264302054802280385:=0
def tw13162577597331132022:=0
def tw8452679825991690829:=0
def tw7614958494984379931:=0
def tw9393056748770706622:=0
def tw14483722001366653802:=0
def tw11365115423654082366:=0
def tw13923227010063891591:=0
def tw4667807887352417051:=0
def tw4170836066076655709:=0
def tw13605254952975627348:=0
def tw17778368825559834893:=0
def tw2900748462234199042:=0
def tw16948860498246786997:=0
def tw3762264095351134466:=0
def tw11740398501937603755:=0
def tw7420196995676793109:=0
def tw12888225707533559001:=0
def tw7314604326929437035:=0
def tw11217615298751212970:=0
def tw16842060603873387042:=0
def tw16107726234983054245:=0
def tw1559877653221216615:=0
def tw2393651797343563560:=0
def tw9721833275370850436:=0
def tw17611159242947866715:=0
def tw7469105718346026308:=0
def tw2428999580320708656:=0
def tw18196045633054435323:=0
def tw5172364503032328845:=0
def tw6899635196320958053:=0
def tw4858892145398552050:=0
def tw10562428087320332730:=0
def tw14606022762085938528:=0
def tw30152646383023870:=0
def tw8823657262560553309:=0
def tw2715634325055236145:=0
def tw473236762268504653:=0
def tw10385418160096781292:=0
def tw4149560397211835342:=0
def tw10787905260776305418:=0
def tw6809589850256164017:=0
def tw10404724360069445646:=0
def tw15411750924963895894:=0
def tw5920625546692689733:=0
def tw14438580677537417688:=0
def tw8309901573502420737:=0
def tw12987056570681173439:=0
def tw7834004410886760015:=0
def tw6569500794868926326:=0
def tw145349924749873641:=0
def tw3705631388672530035:=0
def tw6924947769924620818:=0
def tw5628275371828192438:=0
def tw8154180170172266951:=0
def tw800576350773743361:=0
def tw13541203495119965096:=0
def tw6755877532960913855:=0
def tw1424398950044144954:=0
def tw1926656273653800764:=0
def tw10657240422170003245:=0
def tw4009693753957982061:=0
def tw5670858513601844077:=0
def tw789815778674477365:=0
def tw12454051737572729051:=0
def tw8382774499810024505:=0
def tw4491808049352099631:=0
def tw3070309530265900940:=0
def tw14437716509893128380:=0
def tw15491038589880688675:=0
def tw9856948713542515196:=0
def tw2706650505802320833:=0
def tw14805156062902027277:=0
def tw14004070981160577868:=0
def tw10679494937582631461:=0
def tw11723403764985024907:=0
def tw3045799255291254528:=0
def tw12723673353622356936:=0
def tw11408321164198280356:=0
def tw17777003992275006357:=0
def tw13723449018019681268:=0
def tw1135747757609619803:=0
def tw3591351184701832484:=0
def tw11773276495134135675:=0
def tw14790099120814755772:=0
def tw17589279429229049435:=0
end PySem.W.Fast
end
open PySem.W PyProof.Rows
set_option maxRecDepth 100000 in
set_option maxHeartbeats 0 in
theorem PySem.Challenge.cw_probewell_k56_books_refused_holds : PySem.Challenge.rw_probewell_k56_books_refused.Holds := by
 w_on;o_law;k_head;(case hw=>w_witness2)
 k_fill
 refine VS.b1v (k:=9) (x:="_law_script") (m:=Prog.m_law) (l:=PySem.Challenge.rw_probewell_k56_books_refused) rfl rfl ⟨rfl,by decide,by decide⟩ (fun w h Y=>by first|exact PySem.W.kIn_of Y|exact PySem.W.km_in_of Y) (fun w=>by kernel_rfl) ?F Prog.law_true
 case F=>
  intro w mg fa h KX G hmg
  refine' Prog.c1e hmg ?b ?_
  case b=>
   constructor
   iterate 33 (refine' VS.c2j KX G ?a ?l ?c ?k;(case a=>k_is);(case l=>k_is);(case c=>k_is);(case k=>k_is))
   iterate 13 (refine' PySem.W.mg_none_of KX G ?_;k_is)
   iterate 2 (refine' VS.c3G KX G ?a;(case a=>k_is))
   iterate 2 (refine' VS.c3K ?a ?b;(case a=>k_is);(case b=>kernel_rfl))
   (refine' VS.c3L ?a ?b;(case a=>k_is);(case b=>kernel_rfl))
   iterate 12 (refine' VS.c3M KX G ?a ?b ?c;(case a=>k_is);(case b=>kernel_rfl);(case c=>kernel_rfl))
   (refine' ⟨?b,?c⟩;(case b=>kernel_rfl);(case c=>kernel_rfl))
  kernel_rfl
