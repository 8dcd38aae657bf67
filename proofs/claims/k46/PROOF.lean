import PyProof.Rows.All
import Wide.All
import OpenK.AllK
import Wide.FinOn
import Lean
import PyProof.EqAt
import PyProof.EqKinds
import PyProof.TupleCall
import KE.KLam
import PyProof.WalksEnum
import PyProof.EnumMake
import PyProof.Rows.SortWalk
import PyProof.Rows.SetFrom
import PyProof.SetRoads
import PyProof.DictTable
import PyProof.ListRange
import PyProof.DictWalks
import PyProof.DictUpdate
import KE.KSortTup
import KE.KDictSum
import KE.KSortKey
import KE.KDictOf
import PyProof.DictItemsLoops
import KE.KPairComp
import PyProof.ZipIter
import PyProof.Draws
import PyProof.IsiBase
import PyProof.AttrMiss
import KE.KDictList
import PySem.Challenge.RW_probewell_k46_stuck_or_a_tree
set_option Elab.async false
set_option linter.all false
set_option maxRecDepth 100000
set_option compiler.extract_closed false
set_option bootstrap.genMatcherCode false
noncomputable section
open Option renaming some→el,none→p4
open PySem renaming wpAny_bind→ab,wpAny_pure→ae,Value→ah,Shared→ai,Addr→au,starEach→aw,wpAny→aC,sizeLine→aS,model→aV,PyData→ba,Program→br,wpAny_call_entry→bB,Str→bC,Around→bD,wpAny_holding→bJ,wpAny_callSpecial?_slot→bK,World→bL,Heap→bN,mainGlobals→bP,compareOp→bS,mem_of_lookup→bZ,backTo→cx,eval→cy,wpAny_dictEntries→cC,wpAny_field→cP,sizeLine_eq→cQ,sysModules→cR,cLine→cV,wpAny_mono→cX,rawInt→cY,attributeBase→dc,wpAny_newObj_type→dg,intKind→dh,wpAny_specialOf→dy,FuncData→dC,wpAny_seqItems→dI,codeAny_builtin→dP,wpAny_rule→dW,wpAny_ite_split→ej,DictEntry→eA,behindInMarks→eE,wpAny_setField→eH,binaryOp→eL,Paired→eO,wpAny_truthy_bool→eR,foldedSetIterable→eS,Pos→ff,plainId_quiet→fm,wpAny_isInstance→fu,wpAny_setField_rec→fy,wpAny_Call_Name_kw→fA,Obj→fD,wpAny_notOrdered_dict→fG,swapsWith→fI,codeAny_mono→fK,pyNext→fP,wpAny_typeNameOfWhole_keyiter→fX,Scope→fZ,bootBuiltins→gf,wpAny_passesOwn→gi,SetTable→gn,wpAny_attempt→gz,wpAny_setState_of→gE,codeAny→gF,Stmt→gM,wpAny_typeOf→gY,Keyword→hJ,wpAny_setEntries_of→ia,wpAny_typeNameOf_keyiter→ie,assignEach→iq,wpAny_Call_method0_late→ir,wpAny_fieldsOf→iN,firstArgMember→iO,NameKind→iP,builtinLookup_eq_fast→i_,evalArgs_none→ja,scanBound→je,IsPair→jk,sliceBounds→jm,keywordEach→jn,ReadsAll→jx,wpAny_updateSeq→jC,wpAny_dictEpoch→jD,hashInt→jK,TriplesOk→jX,builtinsNs→ka,fits_of_scanBound→kI,dictSetHashed→kN,pickOrder→k_,codeAmong→ly,Walks→lC,Arguments→lH,wpAny_load→lK,relabel→lN,wpAny_execs_nil→lX,typeLookup_type→lY,letOwnedTupleGo→l_,wpAny_updateDictKeys→mD,wpAny_runValue→mE,wpAny_newTuple→mG,wpAny_letGo→mH,relayAll→mL,isSubtype_type→mN,backToKw→mV,IsZip→nq,holding→nt,callerA→ny,PassesOwn→nD,BindsTo→nF,field→nW,Env→n_,wpAny_pyIter_tuple→oh,typeLookup→om,intKind_is→ox,closureFor→oI,assign→oJ,wpAny_pyIter_slot→oX,wpAny_pyIter_list→oY,getItem→pU,bindArgs→pW,wpAny_askSetting→qJ,updateSeq→qK,pyIter→qO,noFill_tuple_add→qP,isTrue→qR,wpAny_of_eq→rK,unsupported→rN,subscripted→rO,wpAny_ret_mkInt→sF,setNext→tX,wpAny_call→uB,truthy→uD,slotArgs→uH,isSubtype_stop→uP,entryFor_alias→vP,entryFor→vQ,dictSetDefault→vS,callType_codes→vX,Result→vY,wpAny_pendingCount_other→xj,wpAny_onRaise→xm,wpAny_newList→xo,wpAny_handled→xp,wpAny_comprehension_free→xq,seq_tuple_add→xt,call→zi,wpAny_callSpecial?_none→zu,seqItems?→zB,bindL→Bj,bindC→Bl,wpAny_Call_method_late→BC,newExc→Ci,dictSet→ET,dictGet→EU,concat_meets→EV,call_meetsIn→EX,wpAny_isOneOf_keyiter→Fn
open PySem.Heap renaming get?_push_of_some→af,get?_push_size→aE,lt_size→aG,get?_update_self→bT,SameBut→cE,size_push→cL,get?_update_other→c_,size_update→rF,ExtBut→sD
open PySem.W renaming Frag→ag,kia_one→cO,kla_obj→eF,kitOne→eY,keepIn→fM,fnOf→fS,CodeHd→gq,nsIn→gB,envX→jj,findIn→jy,mg_of→jQ,codeIn→lD,methodObj→mZ,kitx_list→m_,kitx_dict→nc,instObj→oK,OpenLaw→oM,lookIn→pY,cellsFrom_some→tN,kitx_tuple→zj,callWith_K→zk,specialIn→Bp,plainGet→Fb
open List renaming mem_cons_self→aj,getElem?_eq_getElem→ak,mem_singleton→ao,mem_cons_of_mem→aq,length_map→ar,mem_append_right→ax,mem_cons→az,map_cons→aA,mem_append→aF,mem_append_left→aL,getD_eq_getElem?_getD→aM,replicate→aO,getElem?_eq_some_iff→aP,map_append→aT,getElem?_map→aU,range→aX,mem_map→aY,nodup_append→aZ,size_toArray→bb,count_append→bc,length_append→bg,length_cons→bh,all_eq_true→bj,mem_of_getElem?→bo,append_assoc→bp,nodup_cons→bt,mem_filter→bu,cons_append→bx,nodup_nil→bA,append_nil→bE,mem_map_of_mem→bG,mem_iff_getElem?→bM,map_map→bO,mem_range→b_,nil_append→cA,any_eq_false→cB,map_congr_left→cD,not_mem_nil→cF,getElem_mem→cG,nodup_iff_count→cI,map_nil→cU,any_eq_true→cZ,count_pos_iff→dm,count_cons→du,length_filter_le→dB,count_eq_zero→dH,length_zip→dS,getElem?_eq_none→dY,zip_cons_cons→dZ,pairwise_cons→d_,mem_filterMap→ef,length_take→eh,filter_cons_of_pos→eB,filter_cons_of_neg→eD,getElem?_append_right→eZ,filter_append→e_,drop_eq_getElem_cons→fw,lookup_cons→fN,length_eq_zero_iff→fO,find?_eq_none→fT,filter_eq_nil_iff→fU,length_replicate→fW,length_range→gc,mem_iff_getElem→gu,getElem?_set_ne→gx,count_cons_self→gy,map_id'→gD,getElem?_append_left→gG,replicate_zero→gL,of_mem_zip→gU,find?_cons→gW,getElem?_set_self→ij,getElem_map→iG,length→iQ,forIn_cons→iX,replicate_succ→jb,set_cons_succ→jA,forIn_nil→jB,getElem?_zip_eq_some→jE,ext_getElem?→jH,any_cons→jT,take_length→ki,mem_reverse→kj,drop_length→kl,pairwise_append→lE,getElem?_range→lV,filterMap_cons→lW,set_cons_zero→mw,take_succ_eq_append_getElem→ni,reverse_cons→nj,pairwise_map→nk,zip_append→oO,perm_ext_iff_of_nodup→qd,pairwise_iff_getElem→qG,mem_of_find?_eq_some→qH,exists_mem_of_ne_nil→qI,set_comm→rC,find?_range_eq_some→rD,pairwise_singleton→sA,getElem?_replicate→sC,toArray→tO,pairwise_lt_range→tP,length_pos_of_mem→tQ,length_singleton→uq,getElem?_toArray→ur,getElem?_reverse→uu,contains_iff_mem→uv,length_eraseIdx→wa,length_reverse→xa,zip_nil_left→Bq,getElem_take→Br,find?_isSome→Bs,filter_congr→Bt,zipIdx_cons→Fe,range'_succ→Ff,map_reverse→Fg,map_fst_zip→Fh,length_drop→Fi,filter_cons→Fj,zipIdx_nil→Gi,foldl_cons→Gj,find?_some→Gk,filter_nil→Gm
open Bool renaming and_eq_true→av,false_ne_true→aQ,false_eq_true→cg,eq_iff_iff→dG,not_eq_true'→fF,and_self→fV,or_eq_true→gX,beq_eq_decide_eq→iy,not_true→iK,and_true→iM,true_and→jV,false_bne→lG,false_or→rJ,or_eq_true_iff→xg
open PySem.PyData renaming int→ay,eqv→aJ,canLayAll0→be,eqvAll→de,bool→df,depthAll→dA,canLay0→eN,depth→gg,list→gP,none→jz,tuple→jS
open Nat renaming le_refl→aD,ne_of_lt→a_,lt_of_lt_of_le→bw,zero_le→bI,le_trans→cw,lt_irrefl→dt,le_of_lt→dE,ne_of_gt→dQ,le_succ→eU,lt_trans→fE,lt_succ_of_lt→f_,lt_or_ge→gC,lt_of_le_of_lt→g_,lt_succ_self→kh,min_self→kE,add_assoc→mh,le_succ_of_le→nh,le_add_right→nR,min_le_left→oN,zero_lt_succ→Fd,not_lt_zero→Gh
open Option.some renaming inj→aK,injEq→ng
open PySem.Value renaming ref→aW,none→bz,type→dD,int→gA,bool→ji,isInt→ju,str→rl,builtin→zh
open Array renaming getElem?_eq_getElem→bF,getElem?_toList→bR,length_toList→bW,getElem?_eq_none→dw,mem_toList_iff→dM,getD_eq_getD_getElem?→dO,toArray_toList→iU,forIn_toList→mz,getD→zq,toList_push→Bw
open Option renaming bind_some→bH,map_eq_some_iff→cS,isSome_iff_exists→gQ,bind_eq_some_iff→sy,getD_none→Fc,map_some→Gg
open PySem.Heap.SameBut renaming update→bQ
open Int renaming toNat_natCast→bV,emod_nonneg→dF,emod_lt_of_pos→ei,toNat_of_nonneg→jc,natCast_mul→kJ,natCast_add→oP
open PySem.Builtin.SmallTypes renaming ownedTupleIsFree→bX,nextOf→cu,ownedTupleHandOut→nS
open Or renaming inr→bY,inl→cn
open PySem.PassesOwn renaming never→cf
open PySem.Str renaming ofString→cm
open False renaming elim→cK
open PySem.Paired renaming length→cM
open PySem.Around renaming under_plainId→cW
open PySem.Builtin.List renaming listExtendWith→dq,listLengthHint→gH,listSameRef→il,listItems→Fm
open PyProof.Rows renaming step_dedup→dJ,callWith_type1→eQ,seqObj→iH,envOfC→iY,firstMet→kT,entry_proto_collect'→mC,SortKind→nz,entry_list_iadd'→nZ,AllBare→og,IntsAre→vZ,mirror_perm→Cn
open Ne renaming symm→dN
open ForInStep renaming yield→dU
open PySem.Builtin.Tuple renaming tupleHashOf→er
open List.Perm renaming refl→et,swap→qf,eq_of_pairwise→rE,append_left→uw,of_eq→Gp
open PySem.Obj renaming mapSeq→eu,data_mapFields→gh,data_mapDictKeys→gR,isFreed_of_dict→ib,isFreed_of_fields→mv,cls_mapFields→p_,data_mapDict→rB,putSet→v_,mapFields→zm
open PySem.SetTable renaming below→eM,grown→gN
open PySem.Builtin.Dict renaming updateFrom→eV,mergeDict→iS,showsAll→jd,selfAndRest→kU,entriesForEmpty→tU,readDirectly→xc,pendingCount→xf,addKeywords→zp
open PySem.F renaming slot_dict_keyiterator_next→eW,slot_dict_values→gO,slot_tuple_iterator_next→gS,called_set→hU,plain_list_iadd→hZ,plainAttrs_dict→h_,slot_dict_len→ip,args_tuple_add_2→jR,plainAttrs_list→ke,entry_tuple_add→kg,slot_tuple_add→kB,slot_tuple_hash→kK,slot_zip_getattribute→lF,slot_zip_next→mi,plain_proto_collect→oW,args_dict_values_1→pZ,slot_list_reverse→qC,slot_dict_getitem→qD,plain_extend_loop→qE,entry_dict_values→qF,type_list_append→ro,type_dict_values→rq,slot_list_append→rz,slot_dict_update→rA,slot_dict_iter→rG,args_dict_keyiterator_next_1→rH,slot_dict_items→sx,entry_dict_keyiterator_next→sE,args_tuple_iterator_next_1→tR,entry_tuple_iterator_next→ux
open PySem.Calls renaming callWith_builtin→fg,call_function_entry→kF,evalArgs_plain→nr,Name_function_global→wc
open PySem.NameKind renaming free→fq
open PyProof.Rows.KeyOrd renaming kle_refl→fx,kle_of_klt→mx,kle_trans→nE
open PyProof.Rows.F renaming plain_set_update_loop→gK,entry_set_update_loop→lU
open List.Pairwise renaming nil→ik,of_map→wb
open True renaming intro→jw
open PySem.W.KasT renaming kasWp_bind→jU
open PUnit renaming unit→kC
open PySem.Shared renaming TypeIs→kS
open Sum renaming inr→mX,inl→mY
open PySem.SeqAt.ReadsAll renaming length→nY
open PySem.SetTable.below renaming go→pX
open PySem.Builtin.Dict_items renaming ownsTuple→tS
open List.Sublist renaming refl→Bu
open PySem.pickOrder renaming go→Ca
open List.cons renaming injEq→Gn
def aB:=@if_pos
def aH:=@decide_eq_true
def aI:=@if_neg
def aN:=@of_decide_eq_true
def aR:=@decide_eq_false
def bU:=@decide_eq_true_eq
def dX:=@if_false
def fC:=@congrArg
def fL:=@beq_self_eq_true
def gJ:=@beq_eq_false_iff_ne
def gT:=@if_true
def hX:=@decide_eq_false_iff_not
def ku:=@beq_iff_eq
def xB:=@of_decide_eq_false
def Bi:=@bne_self_eq_false
namespace L2
open PySem PySem.Spec PyProof.Rows
abbrev Key:=Sum Int bC
def b5o:Key→ah→Bool
  |.inl k,v=>ju k v
  |.inr x,v=>ah.isStrOf x v
def b9R(w:bL):Key→Int
  |.inl k=>jK k
  |.inr x=>hashStr w x
def u4:∀{k:Key} {v:ah},b5o k v=true→(∃i t,k=mY i∧v=gA i t)∨(∃x t,k=mX x∧v=rl x t)
  |.inl i,v,h=>by
    obtain⟨t,e⟩:=ah.isInt_shape (k:=i) (v:=v) h;exact .inl ⟨i,t,rfl,e⟩
  |.inr x,v,h=>by
    obtain⟨t,e⟩:=ah.isStrOf_shape (x:=x) (v:=v) h;exact .inr ⟨x,t,rfl,e⟩
def b5N(a b:Int):decide ((mY a:Key)=mY b)=(a==b):=by
  by_cases e:a=b
  · subst e;simp
  · have h:¬ (mY a:Key)=mY b:=λq=>e (mY.inj q)
    rw[aR h];exact (gJ.mpr e).symm
def b5O(a b:bC):decide ((mX a:Key)=mX b)=decide (a=b):=by
  by_cases e:a=b
  · subst e;simp
  · have h:¬ (mX a:Key)=mX b:=λq=>e (mX.inj q)
    rw[aR h,aR e]
def b5P(a:Int)(b:bC):decide ((mY a:Key)=mX b)=false:=aR (λq=>nomatch q)
def b5Q(a:bC)(b:Int):decide ((mX a:Key)=mY b)=false:=aR (λq=>nomatch q)
def a4m(prog:br)(w:bL):PySem.KeyKind prog w Key where
  is:=b5o
  hash:=b9R w
  inj:=λv a b ha hb=>by
    rcases u4 ha with⟨i,t,rfl,rfl⟩|⟨x,t,rfl,rfl⟩
    · rcases u4 hb with⟨j,u,rfl,e⟩|⟨y,u,rfl,e⟩
      · injection e with e1 _;rw[e1]
      · exact nomatch e
    · rcases u4 hb with⟨j,u,rfl,e⟩|⟨y,u,rfl,e⟩
      · exact nomatch e
      · injection e with e1 _;rw[e1]
  byValue:=λk v h=>by
    rcases u4 h with⟨i,t,rfl,rfl⟩|⟨x,t,rfl,rfl⟩<;>rfl
  pyHash:=λhv h=>by
    rcases u4 hv with⟨i,t,rfl,rfl⟩|⟨x,t,rfl,rfl⟩
    · exact wpAny_pyHash_int h
    · exact wpAny_pyHash_str h
  eqBool:=λhu hv h=>by
    rcases u4 hu with⟨i,t,rfl,rfl⟩|⟨x,t,rfl,rfl⟩
    · rcases u4 hv with⟨j,u,rfl,rfl⟩|⟨y,u,rfl,rfl⟩
      · rw[b5N]at h;exact wpAny_eqBool_int h
      · rw[b5P]at h;exact SeqAt.EqAt.int_str i t y u _ _ _ _ h
    · rcases u4 hv with⟨j,u,rfl,rfl⟩|⟨y,u,rfl,rfl⟩
      · rw[b5Q]at h;exact SeqAt.EqAt.str_int x t j u _ _ _ _ h
      · rw[b5O]at h;exact wpAny_eqBool_str h
  «strs»:=λk x t v h=>by
    rcases u4 h with⟨i,u,rfl,e⟩|⟨y,u,rfl,e⟩
    · exact nomatch e
    · injection e with e1 _
      subst e1;cases v<;>rfl
inductive V where
  |non|bl (b:Bool)|int (i:Int)|str (x:bC)|byt (b:Array UInt8)|flt (b:UInt64)|ref (a:au)|ty (n:String)
  deriving DecidableEq
def RelV:V→ah→Prop
  |.non,u=>u=bz
  |.bl b,u=>u=ji b
  |.int i,u=>∃t,u=gA i t
  |.str x,u=>∃t,u=rl x t
  |.byt b,u=>∃t,u=ah.bytes b t
  |.flt b,u=>∃t,u=ah.float b t
  |.ref a,u=>u=aW a
  |.ty n,u=>u=dD n
abbrev Vals:List V→List ah→Prop:=eO RelV
theorem Vals.length{xs:List V}{us:List ah}(r:Vals xs us):xs.length=us.length:=cM r
theorem Vals.get:∀{xs:List V} {us:List ah} {i:Nat} {x:V},Vals xs us→xs[i]?=el x→∃u,us[i]?=el u∧RelV x u
  |_,_,_,_,.nil,e=>by simp at e
  |_,_,0,_,.cons r _,e=>by simp at e;subst e;exact⟨_,rfl,r⟩
  |_,_,i+1,x,.cons _ t,e=>by
    obtain⟨u,h1,h2⟩:=Vals.get (i:=i) (x:=x) t (by simpa using e);exact⟨u,by simpa using h1,h2⟩
theorem Vals.append:∀{xs ys:List V} {us ws:List ah},Vals xs us→Vals ys ws→Vals (xs++ys) (us++ws)
  |_,_,_,_,.nil,s=>s
  |_,_,_,_,.cons r t,s=>.cons r (Vals.append t s)
theorem Vals.take:∀{xs:List V} {us:List ah} (n:Nat),Vals xs us→Vals (xs.take n) (us.take n)
  |_,_,0,_=>.nil
  |_,_,_+1,.nil=>.nil
  |_,_,n+1,.cons r t=>.cons r (Vals.take n t)
theorem Vals.drop:∀{xs:List V} {us:List ah} (n:Nat),Vals xs us→Vals (xs.drop n) (us.drop n)
  |_,_,0,r=>r
  |_,_,_+1,.nil=>.nil
  |_,_,n+1,.cons _ t=>Vals.drop n t
def b5R:Option V→Option ah→Prop
  |some v,el u=>RelV v u
  |none,p4=>True
  |_,_=>False
def KV{κ:Type}:List (κ×V)→List (κ×ah)→Prop:=eO λ(p:κ×V) (q:κ×ah)=>p.1=q.1∧RelV p.2 q.2
def kV:Key→V
  |.inl i=>.int i
  |.inr x=>.str x
inductive HO where
  |lst (xs:List V)
  |tup (xs:List V)
  |dK (kvs:List (Key×V))|dT (kvs:List (List Key×V))
  |set (S:Int→Bool) (n:Nat)
  |ins (C dx:au) (fs:List (bC×V))
  |own (x:au)
  |xd (fs:List (bC×V))
  |met (f x:au)
  |rng (lo hi:Int)
  |frz (o:fD) (u:HO)
  |tbl (ps:Array ah)
  |ext (φ:bN→Prop)
abbrev Hp:=au→Option HO
def upd(H:Hp)(a:au)(o:HO):Hp:=λb=>if b=a then el o else H b
def i6{H:Hp}{a:au}{o:HO}:upd H a o a=el o:=by unfold upd;rw[aB rfl]
def f7{H:Hp}{a b:au}{o:HO}(h:b≠a):upd H a o b=H b:=by unfold upd;rw[aI h]
def b3r:upd (upd H a o) a u=upd H a u:=by
  funext b;unfold upd;split<;>rfl
def m7{H:Hp}{a b:au}{o:HO}(h:H a=el o)(h':H b=p4):a≠b:=by
  intro e;subst e;rw[h]at h';cases h'
def Pin(a:au):HO→Prop
  |.tup _=>True
  |.frz _ (.own b)=>b=a
  |_=>False
abbrev b8d(a:au):={u:HO // Pin a u}
def a5k(H:Hp)(h:bN)(a:au)(qs:Array ah):Prop:=
  ∃ps:Array ah,h.get? a=el {cls:=.none,data:=.fields ps}∧jX ps.toList∧∀(pos:ff) (cv:ah),ly pos ps.toList=el cv→
    ∃c' oc vs q t t',cv=.ref c'∧H c'=el (.frz oc (.own a))∧oc.data=.fields vs∧vs[1]?=el (.str q t)∧qs[0]?=el (.str q t')
section
variable (P:br)(w:bL)
def ObjOk(H:Hp)(h:bN)(a:au):HO→Prop
  |.lst xs=>xs.length≤aS∧∃(cJ:List ah) (n:Nat),Vals xs cJ∧h.get? a=el {cls:=.type "list",data:=.seq cJ.toArray n}
  |.tup xs=>xs.length≤aS∧∃cJ:List ah,Vals xs cJ∧IsTup h a cJ.toArray
  |.dK kvs=>kvs.length≤aS∧(a==cR)=false∧∃vs,KV kvs vs∧h.DictOf (a4m P w) a vs
  |.dT kvs=>kvs.length≤aS∧(a==cR)=false∧∃xs:List (List Key×au×ah),
      eO (λ(p:List Key×V) (q:List Key×au×ah)=>p.1=q.1∧H q.2.1=el (.tup (p.1.map kV))∧RelV p.2 q.2.2) kvs xs∧
      ∃o es ep,h.get? a=el o∧o.ExactDict∧o.data=.dict es ep∧es.toList=xs.map (entryOfKey (tupleKind (a4m P w)))∧(xs.map (·.1)).Nodup
  |.set S n=>h.SetOf (dh P w) a S n
  |.ins C dx fs=>H dx=el (.own a)∧fs.length≤1000∧dx≠a∧h.get? a=el (oK C dx)∧
      ∃mA,h.Ns1 dx mA∧(∀f,b5R (fs.lookup f) (mA f))∧PySem.Within mA (fs.map (·.1))
  |.own _=>∃o,h.get? a=el o
  |.xd fs=>∃mA,h.Ns1 a mA∧∀f,b5R (fs.lookup f) (mA f)
  |.rng lo hi=>∃t u v,h.get? a=el {cls:=.type "range",data:=.fields #[.int lo t,.int hi u,.int 1 v]}
  |.frz o u=>h.get? a=el o∧ObjOk H h a u
  |.tbl ps=>a5k H h a ps
  |.met f x=>h.get? a=el (mZ (.ref f) (.ref x))
  |.ext φ=>φ h∧(∃o,h.get? a=el o)∧∀h1 h2:bN,φ h1→(∀o,h1.get? a=el o→h2.get? a=el o)→φ h2
def HOk(H:Hp)(h:bN):Prop:=∀a o,H a=el o→ObjOk P w H h a o
end
section
variable {P:br}{w:bL}{H H':Hp}{h h':bN}{a:au}{o:HO}
theorem ObjOk.lt(x:ObjOk P w H h a o):a<h.objs.size:=by
  cases o with
  |lst xs=>obtain⟨_,_,_,_,e⟩:=x;exact aG e
  |tup xs=>obtain⟨_,_,_,p⟩:=x;exact p.lt
  |dK kvs=>obtain⟨_,_,_,_,o,_,_,e,_⟩:=x;exact aG e
  |dT kvs=>obtain⟨_,_,_,_,o,_,_,e,_⟩:=x;exact aG e
  |set S n=>obtain⟨o,_,_,_,e,_⟩:=x;exact aG e
  |ins C dx fs=>obtain⟨_,_,_,e,_⟩:=x;exact aG e
  |own y=>obtain⟨_,e⟩:=x;exact aG e
  |xd fs=>obtain⟨_,⟨_,_,_,e,_⟩,_⟩:=x;exact aG e
  |rng lo hi=>obtain⟨_,_,_,e⟩:=x;exact aG e
  |frz ob u=>obtain⟨e,_⟩:=x;exact aG e
  |tbl ps=>obtain⟨_,e,_⟩:=(show a5k H h a ps from x);exact aG e
  |met f y=>exact aG (show h.get? a=el _ from x)
  |ext φ=>obtain⟨_,⟨_,e⟩,_⟩:=x;exact aG e
theorem Paired.mapP:∀{l₁:List α} {l₂:List β},eO F l₁ l₂→(∀a b,F a b→G a b)→eO G l₁ l₂
  |_,_,.nil,_=>.nil
  |_,_,.cons r t,f=>.cons (f _ _ r) (Paired.mapP t f)
def ObjOk.stay(x:ObjOk P w H h a o)(k:∀b u,(b=a∨H b=el (.own a))→h.get? b=el u→h'.get? b=el u)
    (ho:∀b,H b=el (.own a)→H' b=el (.own a)) (ht:∀b (u:b8d a),H b=el u.1→H' b=el u.1):ObjOk P w H' h' a o:=by
  induction o with
  |lst xs=>obtain⟨z,cJ,n,r,e⟩:=x;exact⟨z,cJ,n,r,k _ _ (.inl rfl) e⟩
  |tup xs=>obtain⟨z,cJ,r,ob,e,c⟩:=x;exact⟨z,cJ,r,ob,k _ _ (.inl rfl) e,c⟩
  |dK kvs=>obtain⟨z,y,vs,r,ob,es,ep,e,c⟩:=x;exact⟨z,y,vs,r,ob,es,ep,k _ _ (.inl rfl) e,c⟩
  |dT kvs=>
    obtain⟨z,y,xs,r,ob,es,ep,e,c⟩:=x;exact⟨z,y,xs,Paired.mapP r λp q z=>⟨z.1,ht _ ⟨.tup _,trivial⟩ z.2.1,z.2.2⟩,ob,es,ep,k _ _ (.inl rfl) e,c⟩
  |set S n=>obtain⟨ob,es,ep,t,e,c⟩:=x;exact⟨ob,es,ep,t,k _ _ (.inl rfl) e,c⟩
  |ins C dx fs=>
    obtain⟨d,z,ne,e,mA,⟨od,es,ep,e2,c⟩,r⟩:=x;exact⟨ho _ d,z,ne,k _ _ (.inl rfl) e,mA,⟨od,es,ep,k _ _ (.inr d) e2,c⟩,r⟩
  |own y=>obtain⟨ob,e⟩:=x;exact⟨ob,k _ _ (.inl rfl) e⟩
  |xd fs=>obtain⟨mA,⟨od,es,ep,e,c⟩,r⟩:=x;exact⟨mA,⟨od,es,ep,k _ _ (.inl rfl) e,c⟩,r⟩
  |rng lo hi=>obtain⟨t,u,v,e⟩:=x;exact⟨t,u,v,k _ _ (.inl rfl) e⟩
  |frz ob u ih=>obtain⟨e,q⟩:=x;exact⟨k _ _ (.inl rfl) e,ih q⟩
  |tbl ps=>
    obtain⟨qs,e,t,f⟩:=(show a5k H h a ps from x);refine⟨qs,k a _ (.inl rfl) e,t,λpos cv z=>?_⟩;obtain⟨c,oc,vs,q,t1,t2,z1,z2,z3,z4,z5⟩:=f pos cv z;exact⟨c,oc,vs,q,t1,t2,z1,ht c ⟨.frz _ (.own a),rfl⟩ z2,z3,z4,z5⟩
  |met f y=>
    have e:h.get? a=el (mZ (.ref f) (.ref y)):=x;show h'.get? a=el (mZ (.ref f) (.ref y));exact k a _ (.inl rfl) e
  |ext φ=>obtain⟨p,⟨o,e⟩,st⟩:=x;exact⟨st _ _ p λo q=>k _ _ (.inl rfl) q,⟨o,k _ _ (.inl rfl) e⟩,st⟩
theorem HOk.lt(x:HOk P w H h)(e:H a=el o):a<h.objs.size:=(x a o e).lt
def HOk.fresh(x:HOk P w H h)(e:h.objs.size≤a):H a=p4:=by
  cases q:H a with
  |none=>rfl
  |some u=>exact absurd (bw (x.lt q) e) (dt _)
def HOk.kept(x:HOk P w H h)(k:∀b u,h.get? b=el u→h'.get? b=el u):HOk P w H h':=λa o e=>
  (x a o e).stay (λb u _ q=>k b u q) (λ_ q=>q) λ_ _ q=>q
def HOk.laid(x:HOk P w H h)(k:∀b u,h.get? b=el u→h'.get? b=el u)(hp:h.objs.size≤a)(new:ObjOk P w (upd H a o) h' a o):HOk P w (upd H a o) h':=λb u e=>by
  have hn:=x.fresh hp;by_cases hb:b=a
  · subst hb;rw[i6]at e;cases e;exact new
  · rw[f7 hb]at e
    exact (x b u e).stay (λc v _ q=>k c v q) (λc q=>by rw[f7 (m7 q hn)];exact q) λc xs q=>by rw[f7 (m7 q hn)];exact q
end
def Rd(H:Hp)(a:au)(u:HO):Prop:=H a=el u∨∃o,H a=el (.frz o u)
def Rd.ok{P:br}{w:bL}{H:Hp}{h:bN}{a:au}{u:HO}(r:Rd H a u)(x:HOk P w H h):ObjOk P w H h a u:=by
  rcases r with r|⟨o,r⟩
  · exact x a u r
  · obtain⟨_,q⟩:=x a _ r
    exact q
def Mut:Option HO→Prop
  |some (.lst _)=>True
  |some (.dK _)=>True
  |some (.dT _)=>True
  |some (.set _ _)=>True
  |some (.ins _ _ _)=>True
  |some (.ext _)=>True
  |_=>False
section
variable {P:br}{w:bL}{H:Hp}{h h':bN}{x e:au}{o':HO}
def HOk.write(ok:HOk P w H h)(mu:Mut (H x))(he:e=x∨H e=el (.own x))(k:∀b u,b≠e→h.get? b=el u→h'.get? b=el u)(uh:∃u,h'.get? e=el u)
    (new:ObjOk P w (upd H x o') h' x o'):HOk P w (upd H x o') h':=λb u q=>by
  have uM:∀c y,H c=el (.own y)→c≠x:=λc y r z=>by subst z;rw[r]at mu;exact mu
  have xC:∀{bq:au} c (u:b8d bq),H c=el u.1→c≠x:=λ{bq} c u r z=>by subst z;rw[r]at mu;obtain⟨u,hu⟩:=u;cases u<;>first|exact hu|exact mu
  by_cases hb:b=x
  · subst hb;rw[i6]at q;cases q;exact new
  · rw[f7 hb]at q
    by_cases tF:b=e
    · have q':H b=el (.own x):=by
        rcases he with z|z
        · exact absurd (tF.trans z) hb
        · rw[tF];exact z
      rw[q]at q';cases q';obtain⟨v,hv⟩:=uh;exact⟨v,by rw[tF];exact hv⟩
    · refine (ok b u q).stay (λc v hc r=>k c v ?_ r) (λc r=>by rw[f7 (uM c b r)];exact r) λc xs r=>by rw[f7 (xC c xs r)];exact r
      rcases hc with rfl|hc
      · exact tF
      · rintro rfl
        rcases he with z|z
        · exact uM c b hc z
        · rw[hc]at z;cases z;exact hb rfl
end
structure Un (fs ex:List au) (H H':Hp) (h h':bN):Prop where
  keep:∀b o,h.get? b=el o→H b=p4→b∉fs→b∉ex→h'.get? b=el o
  slot:∀b o,h.get? b=el o→H b=p4→b∈fs→b∉ex→∃sl,h'.get? b=el {o with slots:=sl}
  free:∀b o,h.get? b=el o→H b=p4→b∉ex→H' b=p4
  there:∀b o,h.get? b=el o→b∉ex→∃o',h'.get? b=el o'
  tups:∀b xs,H b=el (.tup xs)→H' b=el (.tup xs)
  frzs:∀b o u,H b=el (.frz o u)→H' b=el (.frz o u)
  tbls:∀b ps,H b=el (.tbl ps)→∃more,H' b=el (.tbl (ps++more))
section
variable {fs jZ ex FX:List au}{H H1 H2:Hp}{h h1 h2 h':bN}{a x e:au}{o:HO}
def Un.any(u:Un fs ex H H1 h h1)(q:h.get? b=el ob)(n:H b=p4)(hx:b∉ex):∃sl,h1.get? b=el {ob with slots:=sl}:=by
  by_cases hb:b∈fs
  · exact u.slot b ob q n hb hx
  · exact⟨ob.slots,u.keep b ob q n hb hx⟩
def Un.kept(k:∀b u,h.get? b=el u→h'.get? b=el u):Un fs ex H H h h':=
  ⟨λb ob q _ _ _=>k b ob q,λb ob q _ _ _=>⟨ob.slots,k b ob q⟩,λ_ _ _ n _=>n,λb ob q _=>⟨ob,k b ob q⟩,λ_ _ q=>q,λ_ _ _ q=>q,λ_ ps q=>⟨#[],by rw[q];simp⟩⟩
def Un.refl:Un fs ex H H h h:=Un.kept λ_ _ q=>q
def Un.laid(k:∀b u,h.get? b=el u→h'.get? b=el u)(hp:h.objs.size≤a)(hn:H a=p4):Un fs ex H (upd H a o) h h' where
  keep:=λb u q _ _ _=>k b u q
  slot:=λb u q _ _ _=>⟨u.slots,k b u q⟩
  free:=λb u q n _=>by rw[f7 (a_ (bw (aG q) hp))];exact n
  there:=λb u q _=>⟨u,k b u q⟩
  tups:=λb xs q=>by rw[f7 (m7 q hn)];exact q
  frzs:=λb u xs q=>by rw[f7 (m7 q hn)];exact q
  tbls:=λb ps q=>⟨#[],by rw[f7 (m7 q hn),q];simp⟩
def Un.write(mu:Mut (H x))(he:e=x∨H e=el (.own x))(k:∀b u,b≠e→h.get? b=el u→h'.get? b=el u)(uh:∃u,h'.get? e=el u):Un fs ex H (upd H x o) h h':=by
  have hx:∀b,H b=p4→b≠x:=λb n z=>by subst z;rw[n]at mu;exact mu
  have hb:∀b,H b=p4→b≠e:=λb n z=>by
    subst z;rcases he with r|r
    · exact hx b n r
    · rw[n]at r;cases r
  have hm:∀b u,H b=el u→¬ Mut (el u)→b≠x:=λb u q nm z=>by subst z;rw[q]at mu;exact nm mu
  refine⟨λb u q n _ _=>k b u (hb b n) q,λb u q n _ _=>⟨u.slots,k b u (hb b n) q⟩,λb u q n _=>by rw[f7 (hx b n)];exact n,λb u q _=>?_,
    λb xs q=>by rw[f7 (hm b _ q λz=>z)];exact q,λb u xs q=>by rw[f7 (hm b _ q λz=>z)];exact q,λb ps q=>⟨#[],by rw[f7 (hm b _ q λz=>z),q];simp⟩⟩
  by_cases tF:b=e
  · subst tF;exact uh
  · exact⟨u,k b u tF q⟩
end
def trk(h:bN)(H:Hp):List au:=(aX h.objs.size).filter λa=>(H a).isSome
def a4n(h:bN)(H:Hp):bN:=PySem.W.hideAll h (trk h H)
def a8X(h:bN)(H:Hp):(a4n h H).objs.size=h.objs.size:=PySem.W.hideAll_size _ _
def b0L{h:bN}(e:h.get? b=el o)(n:H b=p4):(a4n h H).get? b=el o:=
  PySem.W.hideAll_get _ e λhm=>by
    have q:(H b).isSome=true:=(bu.mp hm).2;rw[n]at q;simp at q
def b3s(e:(a4n h H).get? b=el o):h.get? b=el o∧H b=p4:=by
  have e':h.get? b=el o:=PySem.W.of_hideAll (trk h H) e;refine⟨e',?_⟩;cases q:H b with
  |none=>rfl
  |some x=>
    have hm:b∈trk h H:=bu.mpr ⟨b_.mpr (aG e'),by simp[q]⟩;have z:(a4n h H).get? b=p4:=PySem.W.hideAll_none (trk h H) hm;rw[z]at e;cases e
def b3t(g h:bN)(L:au):List (au×fD):=(aX h.objs.size).filterMap λa=>if a=L∨(g.get? a).isSome=true then p4 else (h.get? a).map λo=>(a,o)
def rest(g h:bN)(L d:au):List (au×fD):=(b3t g h L).filter λp=>decide (p.1≠d)
def K0:List bC:=["ways_by_state","joins_by_pair","compare","first_gathering","least_asks"]
def S7(x:bC):bC:=x++".<locals>." ++ "<lambda>"
def a4o(K:ag)(cd:ah):Option au:=match cd with
  |.ref c=>(match K.lookup c with
    |some ⟨.type n,_,.fields vs,_⟩=>if n=="code" then
        (match (vs[11]?:Option ah),(vs[18]?:Option ah),(vs[7]?:Option ah),(vs[9]?:Option ah),(vs[10]?:Option ah) with
        |some (.ref P),el (.str _ _),el (.int _ _),el (.bool _),el (.int _ _)=>if c !=P then el P else p4
        |_,_,_,_,_=>p4) else p4
    |_=>p4)
  |_=>p4
def B0(K:ag)(x:bC):Option au:=match gB K bP x with
  |some (el (.ref f))=>(match K.lookup f with
    |some ⟨_,_,.func fd,_⟩=>a4o K fd.code
    |_=>p4)
  |_=>p4
def TabsIn(K:ag)(H:Hp):Prop:=∀x∈K0,∀p,B0 K x=el p→∃qs t,H p=el (.tbl qs)∧qs[0]?=el (.str (S7 x) t)
def TabsIn.un{K:ag}{fs ex:List au}{H H':Hp}{h h':bN}(a:TabsIn K H)(u:Un fs ex H H' h h'):TabsIn K H':=λx hx p e=>by
  obtain⟨qs,t,e1,e2⟩:=a x hx p e;obtain⟨more,e3⟩:=u.tbls p qs e1;refine⟨_,t,e3,?_⟩;have hz:0<qs.size:=by
    rcases gC 0 qs.size with z|z
    · exact z
    · rw[dw (by omega)]at e2;cases e2
  rw[Array.getElem?_append_left hz];exact e2
structure Mod (K:ag) (mg:bC→Option ah) (base:bN):Prop where
  kin:K.In base
  glob:base.Ns bP mg
  blt:∃mb,base.Ns ka mb∧∀x:bC,x≠"__name__"→mb x=gf x
  nolimit:base.NoLimit
  bmain:∃bm ob,mg "__builtins__"=el (.ref bm)∧bm≠ka∧base.get? bm=el ob∧ob.cls=.type "module"∧ob.dict=el ka∧ob.data=.plain
/-- oQ context: a vT body (or a iZ block) running. base: fixed through oQ whole law; s₀, H₀: oQ entry; outer: oQ frames uC slots others may change (a vT wZ); stack: all frames qL run;
   ex: tZ qL xr made ahead of oQ entry and are walked here (a iZ);fn: oQ names uC cells xr made at oQ entry (a def: all;a iZ block: cJ own);calm: not within an except zx;pn: pins qL AY state bears;xe: BD is wanted of an exception qL xI oQ code -/
structure Cx where
  prog:br
  w:bL
  K:ag
  mg:bC→Option ah
  base:bN
  A:bD
  N:List bC
  s₀:ai
  H₀:Hp
  env:n_
  outer:List n_
  stack:List n_
  ex:List au
  fn:bC→Bool
  calm:Bool
  pn:List (au×fD)
  xe:ah→ai→Prop
def frs(l:List n_):List au:=l.filterMap (·.frame)
abbrev Cx.fs(X:Cx):List au:=frs X.outer
def Vis(sc:fZ)(x:bC):Prop:=sc.names.lookup x=el .local∨sc.names.lookup x=el .cell∨sc.names.lookup x=el .free
def Loc(sc:fZ)(x:bC):Prop:=sc.names.lookup x=el .local∨sc.names.lookup x=el .cell
def Look(env:n_)(h:bN)(m:bC→Option ah)(x:bC)(u:ah):Prop:=
  (env.kindOf x=el .local∧m x=el u)∨((env.kindOf x=el .cell∨env.kindOf x=el .free)∧∃c,env.cells.lookup x=el c∧h.IsCell c (el u))
structure Cx.Ok (X:Cx):Prop where
  mod:Mod X.K X.mg X.base
  kind:X.env.scope.kind=.function
  glob:X.env.globals=bP
  blt:X.env.builtins=ka
  above:X.s₀.heap.objs.size≤X.env.locals
  inj:∀x y c,X.env.cells.lookup x=el c→X.env.cells.lookup y=el c→x=y
  has:∀x,(X.env.kindOf x=el .cell∨X.env.kindOf x=el .free)→∃c,X.env.cells.lookup x=el c
  cab:∀x c,X.fn x=true→X.env.cells.lookup x=el c→X.s₀.heap.objs.size≤c
  hd:X.calm=true→X.A.handled=p4
  frames:X.A.frames=el X.stack
  stk:X.stack=X.outer∨(X.stack=X.env::X.outer∧X.env.frame=el X.env.locals)
  exf:∀b∈X.ex,b≠X.env.locals∧∀x c,X.env.cells.lookup x=el c→c≠b
  bs:∀b o,X.base.get? b=el o→X.s₀.heap.get? b=el o∧X.H₀ b=p4
  bsz:X.base.objs.size≤X.s₀.heap.objs.size
  noex:∀b o,X.base.get? b=el o→b∉X.ex
  exfs:∀b∈X.ex,b∉X.fs
  funs:X.s₀.heap.FunFrames X.base X.outer
  frf:∀b∈X.fs,X.H₀ b=p4
  tabs:TabsIn X.K X.H₀
structure Inv (X:Cx) (pins:List (au×fD)) (σ:List (Option V)) (H:Hp) (s:ai):Prop where
  ok:X.Ok
  os:s.os=X.s₀.os
  bare:og s.gens
  base:Un X.fs X.ex X.H₀ H X.s₀.heap s.heap
  loc:∃m,s.heap.Ns X.env.locals m∧∀(i:Nat) (x:bC) (v:V),X.N[i]?=el x→σ[i]?=el (el v)→Vis X.env.scope x→∃u,RelV v u∧Look X.env s.heap m x u
  cell:∀x c,X.env.cells.lookup x=el c→∃v,s.heap.IsCell c v
  free:H X.env.locals=p4
  freeC:∀x c,X.env.cells.lookup x=el c→H c=p4
  pin:∀p∈X.pn++pins,s.heap.get? p.1=el p.2∧H p.1=p4∧p.1≠X.env.locals∧p.1∉X.fs∧∀v,p.2.data≠.cell v
  hok:HOk X.prog X.w H s.heap
  len:σ.length=X.N.length
section
variable {X:Cx}{pins:List (au×fD)}{σ:List (Option V)}{H H':Hp}{s:ai}{h':bN}
def Cx.Ok.nofr(ok:X.Ok)(e:X.base.get? b=el o):b∉X.fs:=λhb=>by
  have:=(ok.funs.mem hb).1;rw[e]at this;cases this
theorem Inv.bs(I:Inv X pins σ H s):∀b o,X.base.get? b=el o→s.heap.get? b=el o∧H b=p4:=λb o e=>
  ⟨I.base.keep b o (I.ok.bs b o e).1 (I.ok.bs b o e).2 (I.ok.nofr e) (I.ok.noex b o e),I.base.free b o (I.ok.bs b o e).1 (I.ok.bs b o e).2 (I.ok.noex b o e)⟩
theorem Inv.tabs(I:Inv X pins σ H s):TabsIn X.K H:=I.ok.tabs.un I.base
def Inv.bk(I:Inv X pins σ H s):∀b o,X.base.get? b=el o→s.heap.get? b=el o:=λb o e=>(I.bs b o e).1
theorem Inv.mod(I:Inv X pins σ H s):Mod X.K X.mg X.base:=I.ok.mod
def Inv.kIn(I:Inv X pins σ H s):X.K.In s.heap:=I.ok.mod.kin.keeps I.bk
theorem Inv.lt(I:Inv X pins σ H s):X.env.locals<s.heap.objs.size:=let⟨_,hn,_⟩:=I.loc;hn.lt
def Inv.sz(I:Inv X pins σ H s):X.s₀.heap.objs.size≤s.heap.objs.size:=cw I.ok.above (dE I.lt)
def Inv.nofs(I:Inv X pins σ H s)(h:s.heap.objs.size≤a):a∉X.fs:=λhb=>by
  obtain⟨_,o,ho,_⟩:=I.ok.funs.mem hb;exact absurd (bw (aG ho) (cw I.sz h)) (dt _)
def Inv.cne(I:Inv X pins σ H s):∀x c,X.env.cells.lookup x=el c→c≠X.env.locals:=λx c e z=>by
  obtain⟨v,o,ho,hd⟩:=I.cell x c e;obtain⟨m,⟨o',es,ep,nJ,km,_⟩,_⟩:=I.loc;rw[z,nJ]at ho;cases ho;rw[km]at hd;cases hd
theorem Inv.funs(I:Inv X pins σ H s):s.heap.FunFrames X.base X.outer:=by
  have all:∀(l:List n_),(∀b∈frs l,b∈X.fs)→X.s₀.heap.FunFrames X.base l→s.heap.FunFrames X.base l:=by
    intro l
    induction l with
    |nil=>intro _ _;trivial
    |cons env r ih=>
      intro hs hl;obtain⟨hk,⟨L,o,hf,hn,ho,hd⟩,hr⟩:=hl;have hL:L∈X.fs:=hs L (by unfold frs;rw[lW,hf];exact aj);obtain⟨sl,e⟩:=I.base.slot L o ho (I.ok.frf L hL) hL λz=>I.ok.exfs L z hL
      exact⟨hk,⟨L,_,hf,hn,e,hd⟩,ih (λb hb=>hs b (by unfold frs;rw[lW,hf];exact aq _ hb)) hr⟩
  exact all X.outer (λ_ hb=>hb) I.ok.funs
theorem Inv.stack(I:Inv X pins σ H s):s.heap.FunFrames X.base X.stack:=by
  rcases I.ok.stk with e|⟨e,hf⟩
  · rw[e];exact I.funs
  · rw[e]
    obtain⟨m,hn,_⟩:=I.loc;refine .cons (by rw[I.ok.kind];decide) hf hn ?_ I.funs;exact bN.get?_none_of_le (cw I.ok.bsz I.ok.above)
def Inv.stkSub(I:Inv X pins σ H s):∀b∈frs X.stack,b∈X.env.locals::X.fs:=λb hb=>by
  rcases I.ok.stk with e|⟨e,hf⟩
  · rw[e]at hb;exact aq _ hb
  · rw[e]at hb
    unfold frs at hb;rw[lW,hf]at hb;exact hb
def Inv.stkFree(I:Inv X pins σ H s):∀b∈frs X.stack,H b=p4:=λb hb=>by
  rcases az.mp (I.stkSub b hb) with e|hb
  · rw[e];exact I.free
  · obtain⟨_,o,ho,_⟩:=I.ok.funs.mem hb
    exact I.base.free b o ho (I.ok.frf b hb) λz=>I.ok.exfs b z hb
def Inv.step{g':Array GenState}{t':Nat}{d':Drawn}{ch:List au}(I:Inv X pins σ H s)
    (qx:∀b∈ch,(b∈X.ex∨X.s₀.heap.objs.size≤b)∧b≠X.env.locals∧(∀x c,X.env.cells.lookup x=el c→c≠b)∧∀p∈X.pn++pins,p.1≠b)
    (keep:∀b o,b≠X.env.locals→b∉X.fs→b∉ch→s.heap.get? b=el o→H b=p4→h'.get? b=el o)
    (slot:∀b o,b≠X.env.locals→b∈X.fs→b∉ch→s.heap.get? b=el o→H b=p4→∃sl,h'.get? b=el {o with slots:=sl}) (free:∀b o,b∉ch→s.heap.get? b=el o→H b=p4→H' b=p4)
    (there:∀b o,b∉ch→s.heap.get? b=el o→∃o',h'.get? b=el o')
    (tups:∀b xs,H b=el (.tup xs)→H' b=el (.tup xs)) (frzs:∀b o u,H b=el (.frz o u)→H' b=el (.frz o u)) (tbls:∀b ps,H b=el (.tbl ps)→∃more,H' b=el (.tbl (ps++more)))
    (ns:∀m,s.heap.Ns X.env.locals m→h'.Ns X.env.locals m) (hok:HOk X.prog X.w H' h') (hg:og g') :
    Inv X pins σ H' {s with heap:=h',gens:=g',drawn:=d',toks:=t'}:=by
  have zK:∀b o,X.s₀.heap.get? b=el o→b≠X.env.locals:=λb o e=>a_ (bw (aG e) I.ok.above)
  have wu:∀b o,X.s₀.heap.get? b=el o→b∉X.ex→b∉ch:=λb o e hx hb=>by
    rcases (qx b hb).1 with z|z
    · exact hx z
    · exact absurd (bw (aG e) z) (dt _)
  have cellK:∀x c,X.env.cells.lookup x=el c→∀v,s.heap.IsCell c v→h'.IsCell c v:=λx c e v ⟨o,ho,hd⟩=>by
    have pd:c∉ch:=λz=>(qx c z).2.2.1 x c e rfl
    by_cases hc:c∈X.fs
    · obtain⟨sl,q⟩:=slot c o (I.cne x c e) hc pd ho (I.freeC x c e)
      exact⟨_,q,hd⟩
    · exact⟨o,keep c o (I.cne x c e) hc pd ho (I.freeC x c e),hd⟩
  refine⟨I.ok,I.os,hg,⟨λb o e n hb hx=>?_,λb o e n hb hx=>?_,λb o e n hx=>?_,λb o e hx=>?_,λb xs e=>tups b xs (I.base.tups b xs e),λb o xs e=>frzs b o xs (I.base.frzs b o xs e),λb ps e=>?_⟩,?_,λx c e=>?_,?_,λx c e=>?_,λp hp=>?_,hok,I.len⟩
  · exact keep b o (zK b o e) hb (wu b o e hx) (I.base.keep b o e n hb hx) (I.base.free b o e n hx)
  · obtain⟨sl,e1⟩:=I.base.slot b o e n hb hx
    obtain⟨zA,e2⟩:=slot b _ (zK b o e) hb (wu b o e hx) e1 (I.base.free b o e n hx);exact⟨zA,e2⟩
  · obtain⟨o',e1⟩:=I.base.there b o e hx
    exact free b o' (wu b o e hx) e1 (I.base.free b o e n hx)
  · obtain⟨o',e1⟩:=I.base.there b o e hx
    exact there b o' (wu b o e hx) e1
  · obtain⟨m1,e1⟩:=I.base.tbls b ps e
    obtain⟨m2,e2⟩:=tbls b _ e1;exact⟨m1++m2,by rw[e2,Array.append_assoc]⟩
  · obtain⟨m,hn,hl⟩:=I.loc
    refine⟨m,ns m hn,λi x v e1 e2 e3=>?_⟩;obtain⟨u,r,l⟩:=hl i x v e1 e2 e3;refine⟨u,r,?_⟩;rcases l with l|⟨k,c,e,z⟩
    · exact .inl l
    · exact .inr ⟨k,c,e,cellK x c e _ z⟩
  · obtain⟨v,z⟩:=I.cell x c e
    exact⟨v,cellK x c e v z⟩
  · obtain⟨m,⟨o,_,_,ho,_⟩,_⟩:=I.loc
    exact free _ o (λz=>(qx _ z).2.1 rfl) ho I.free
  · obtain⟨v,o,ho,hd⟩:=I.cell x c e
    exact free c o (λz=>(qx c z).2.2.1 x c e rfl) ho (I.freeC x c e)
  · obtain⟨e,n,ne,nf,d⟩:=I.pin p hp
    have pd:p.1∉ch:=λz=>(qx p.1 z).2.2.2 p hp rfl
    exact⟨keep p.1 p.2 ne nf pd e n,free p.1 p.2 pd e n,ne,nf,d⟩
def Inv.un(I:Inv X pins σ H s)(u:Un X.fs [] H H' s.heap h')(hok:HOk X.prog X.w H' h'):Inv X pins σ H' {s with heap:=h',toks:=t'}:=by
  obtain⟨m,⟨o,es,ep,ho,r⟩,_⟩:=id I.loc;obtain⟨sl,hL⟩:=u.any ho I.free (by simp);exact I.step (g':=s.gens) (d':=s.drawn) (ch:=[]) (λ_ z=>nomatch z) (λb o _ hb _ e n=>u.keep b o e n hb (by simp)) (λb o _ hb _ e n=>u.slot b o e n hb (by simp)) (λb o _ e n=>u.free b o e n (by simp)) (λb o _ e=>u.there b o e (by simp)) u.tups u.frzs u.tbls (λm' hm=>by
    obtain⟨o',eX,qA,nJ,r'⟩:=hm;rw[ho]at nJ;cases nJ;exact⟨_,eX,qA,hL,r'⟩) hok I.bare
def Inv.call(I:Inv X pins σ H s)(u:Un (frs X.stack) ch H H' s.heap h')(hok:HOk X.prog X.w H' h')(hg:og g')
    (qx:∀b∈ch,(b∈X.ex∨X.s₀.heap.objs.size≤b)∧b≠X.env.locals∧(∀x c,X.env.cells.lookup x=el c→c≠b)∧∀p∈X.pn++pins,p.1≠b) :
    Inv X pins σ H' {s with heap:=h',gens:=g',drawn:=d',toks:=t'}:=by
  obtain⟨m,⟨o,es,ep,ho,r⟩,_⟩:=id I.loc;obtain⟨sl,hL⟩:=u.any ho I.free λz=>(qx _ z).2.1 rfl
  exact I.step (ch:=ch) qx (λb o hL hb hc e n=>u.keep b o e n (λz=>(az.mp (I.stkSub b z)).elim hL hb) hc) (λb o _ _ hc e n=>u.any e n hc) (λb o hc e n=>u.free b o e n hc) (λb o hc e=>u.there b o e hc) u.tups u.frzs u.tbls (λm' hm=>by
    obtain⟨o',eX,qA,nJ,r'⟩:=hm;rw[ho]at nJ;cases nJ;exact⟨_,eX,qA,hL,r'⟩) hok hg
def Inv.turned(I:Inv X pins σ H s)(k:∀b o,b≠it→s.heap.get? b=el o→h'.get? b=el o)(hn:H it=p4)(hL:it≠X.env.locals)
    (h1:it∈X.ex∨X.s₀.heap.objs.size≤it) (h2:∀x c,X.env.cells.lookup x=el c→c≠it) (h3:∀p∈X.pn++pins,p.1≠it):Inv X pins σ H {s with heap:=h',toks:=t'}:=by
  have zI:∀b u,H b=el u→b≠it:=λb u e z=>by rw[z,hn]at e;cases e
  refine I.step (g':=s.gens) (d':=s.drawn) (ch:=[it]) (λb hb=>?_) (λb o _ _ hc e _=>k b o (λz=>hc (by simp[z])) e) (λb o _ _ hc e _=>⟨o.slots,k b o (λz=>hc (by simp[z])) e⟩) (λ_ _ _ _ n=>n)
    (λb o hc e=>⟨o,k b o (λz=>hc (by simp[z])) e⟩) (λ_ _ e=>e) (λ_ _ _ e=>e) (λb ps e=>⟨#[],by rw[e];simp⟩) (λm hm=>?_) (λb u e=>?_) I.bare
  · have e:b=it:=by simpa using hb
    subst e;exact⟨h1,hL,h2,h3⟩
  · obtain⟨o,es,ep,ho,r⟩:=hm
    exact⟨o,es,ep,k _ o (dN hL) ho,r⟩
  · refine (I.hok b u e).stay (λc v hc q=>k c v ?_ q) (λ_ q=>q) λ_ _ q=>q
    rcases hc with z|z
    · rw[z];exact zI b u e
    · exact zI c _ z
def Inv.tok(I:Inv X pins σ H s)(t:Nat):Inv X pins σ H {s with toks:=t}:=I.un (h':=s.heap) (t':=t) Un.refl I.hok
theorem Inv.kept(I:Inv X pins σ H s)(k:∀b u,s.heap.get? b=el u→h'.get? b=el u):Inv X pins σ H {s with heap:=h',toks:=t'}:=I.un (Un.kept k) (I.hok.kept k)
theorem Inv.laid{a:au}{o:HO}{t':Nat}(I:Inv X pins σ H s)(k:∀b u,s.heap.get? b=el u→h'.get? b=el u)(hp:s.heap.objs.size≤a)(new:ObjOk X.prog X.w (upd H a o) h' a o) :
    Inv X pins σ (upd H a o) {s with heap:=h',toks:=t'}:=I.un (Un.laid k hp (I.hok.fresh hp)) (I.hok.laid k hp new)
theorem Inv.write(I:Inv X pins σ H s)(mu:Mut (H x))(he:e=x∨H e=el (.own x))(k:∀b u,b≠e→s.heap.get? b=el u→h'.get? b=el u)(uh:∃u,h'.get? e=el u)
    (new:ObjOk X.prog X.w (upd H x o) h' x o):Inv X pins σ (upd H x o) {s with heap:=h',toks:=t'}:=I.un (Un.write mu he k uh) (I.hok.write mu he k uh new)
def Inv.pins_of(I:Inv X pins σ H s)(h:∀p∈uJ,s.heap.get? p.1=el p.2∧H p.1=p4∧p.1≠X.env.locals∧p.1∉X.fs∧∀v,p.2.data≠.cell v):Inv X uJ σ H s:=
  ⟨I.ok,I.os,I.bare,I.base,I.loc,I.cell,I.free,I.freeC,λp hp=>(aF.mp hp).elim (λz=>I.pin p (aL _ z)) (h p),I.hok,I.len⟩
def a5l{N:List bC}(hN:N.Nodup){i j:Nat}{x:bC}(a:N[i]?=el x)(b:N[j]?=el x):i=j:=by
  obtain⟨h1,e1⟩:=aP.mp a;obtain⟨h2,e2⟩:=aP.mp b;exact (List.getElem_inj hN).mp (e1.trans e2.symm)
def a8Y{M:Model}{A:bD}{E:ah→ai→Prop}{i:Nat}{x:bC}{v:V}{u:ah}{Q:Unit→ai→Prop}(I:Inv X pins σ H s)(hN:X.N.Nodup)(hi:X.N[i]?=el x)(hx:Loc X.env.scope x)(r:RelV v u)
    (h:∀s',Inv X pins (σ.set i (el v)) H s'→(∃a,cE a s.heap s'.heap∧(a=X.env.locals∨X.env.cells.lookup x=el a))→Q () s') (hf:X.fn x=true∨X.env.scope.names.lookup x=el .local:=by first|exact .inl rfl|exact .inr rfl|assumption):aC M A (storeName X.env x u) Q E s:=by
  obtain⟨m,hn,hl⟩:=id I.loc;have yO:(X.env.scope.kind==.class||(X.env.scope.kind==.module&&X.env.locals !=X.env.globals))=false:=by rw[I.ok.kind];rfl
  have vo:i<σ.length:=by rw[I.len];exact (aP.mp hi).1
  have cne:=I.cne;have tracked:∀{a:au} {h':bN},(∃o,s.heap.get? a=el o∧H a=p4)→cE a s.heap h'→HOk X.prog X.w H h':=λ{a h'} ha hs b ob e=>by
    obtain⟨_,_,mS⟩:=ha;refine (I.hok b ob e).stay (λc w' hc q=>(hs.2 c ?_).trans q) (λ_ q=>q) λ_ _ q=>q
    rintro rfl;rcases hc with rfl|hc
    · rw[mS]at e;cases e
    · rw[mS]at hc;cases hc
  rcases hx with hk|hk
  · refine wpAny_storeName_local hk hn (λh' sU hs=>?_) yO
    obtain⟨oL,_,_,Dd,_⟩:=id hn;refine h _ ⟨I.ok,I.os,I.bare,⟨λb o e n hb hx=>?_,λb o e n hb hx=>?_,I.base.free,λb o e hx=>?_,I.base.tups,I.base.frzs,I.base.tbls⟩,⟨_,sU,λj y v' e1 e2 e3=>?_⟩,λy c e=>?_,I.free,I.freeC,λp hp=>?_,tracked ⟨oL,Dd,I.free⟩ hs,by simpa using I.len⟩ ⟨_,hs,.inl rfl⟩
    · exact (hs.2 b (a_ (bw (aG e) I.ok.above))).trans (I.base.keep b o e n hb hx)
    · obtain⟨sl,e1⟩:=I.base.slot b o e n hb hx
      exact⟨sl,(hs.2 b (a_ (bw (aG e) I.ok.above))).trans e1⟩
    · obtain⟨o',e1⟩:=I.base.there b o e hx
      exact⟨o',(hs.2 b (a_ (bw (aG e) I.ok.above))).trans e1⟩
    · by_cases hj:j=i
      · subst hj
        rw[hi]at e1;cases e1;rw[ij vo]at e2;cases e2
        exact⟨u,r,.inl ⟨hk,by simp⟩⟩
      · rw[gx (dN hj)]at e2
        obtain⟨u',r',q⟩:=hl j y v' e1 e2 e3;refine⟨u',r',?_⟩;rcases q with⟨k,e⟩|⟨k,c,e,z⟩
        · refine .inl ⟨k,?_⟩
          have:y≠x:=λe=>hj (a5l hN e1 (e▸hi))
          simp[this,e]
        · exact .inr ⟨k,c,e,z.sameBut hs (cne y c e)⟩
    · obtain⟨w',z⟩:=I.cell y c e
      exact⟨w',z.sameBut hs (cne y c e)⟩
    · obtain⟨e,n,ne,nf,d⟩:=I.pin p hp
      exact⟨(hs.2 p.1 ne).trans e,n,ne,nf,d⟩
  · have nM:X.fn x=true:=by
      rcases hf with z|z
      · exact z
      · rw[z]at hk;cases hk
    obtain⟨c,hc⟩:=I.ok.has x (.inl hk);obtain⟨w',z⟩:=I.cell x c hc;refine wpAny_storeName_cell I.ok.kind hk hc z (λh' tE hs=>?_);obtain⟨oc,vc,yf⟩:=id z;refine h {s with heap:=h'} ⟨I.ok,I.os,I.bare,⟨λb o e n hb hx=>?_,λb o e n hb hx=>?_,I.base.free,λb o e hx=>?_,I.base.tups,I.base.frzs,I.base.tbls⟩,⟨m,hn.sameBut hs (dN (cne x c hc)),λj y v' e1 e2 e3=>?_⟩,λy c' e=>?_,I.free,I.freeC,λp hp=>?_,tracked ⟨oc,vc,I.freeC x c hc⟩ hs,by simpa using I.len⟩ ⟨c,hs,.inr hc⟩
    · exact (hs.2 b (a_ (bw (aG e) (I.ok.cab x c nM hc)))).trans (I.base.keep b o e n hb hx)
    · obtain⟨sl,e1⟩:=I.base.slot b o e n hb hx
      exact⟨sl,(hs.2 b (a_ (bw (aG e) (I.ok.cab x c nM hc)))).trans e1⟩
    · obtain⟨o',e1⟩:=I.base.there b o e hx
      exact⟨o',(hs.2 b (a_ (bw (aG e) (I.ok.cab x c nM hc)))).trans e1⟩
    · by_cases hj:j=i
      · subst hj
        rw[hi]at e1;cases e1;rw[ij vo]at e2;cases e2
        exact⟨u,r,.inr ⟨.inl hk,c,hc,tE⟩⟩
      · rw[gx (dN hj)]at e2
        obtain⟨u',r',q⟩:=hl j y v' e1 e2 e3;refine⟨u',r',?_⟩;rcases q with q|⟨k,c',e,z'⟩
        · exact .inl q
        · refine .inr ⟨k,c',e,z'.sameBut hs ?_⟩
          rintro rfl;exact hj (a5l hN e1 (I.ok.inj _ _ _ e hc▸hi))
    · by_cases wI:c'=c
      · subst wI;exact⟨_,tE⟩
      · obtain⟨w2,z2⟩:=I.cell y c' e
        exact⟨w2,z2.sameBut hs wI⟩
    · obtain⟨e,n,ne,nf,d⟩:=I.pin p hp
      refine⟨(hs.2 p.1 ?_).trans e,n,ne,nf,d⟩;intro q;rw[q,vc]at e;have q':oc=p.2:=aK e;exact d w' (by rw[←q'];exact yf)
def a1X(I:Inv X pins σ H s)(hN:X.N.Nodup)(hi:X.N[i]?=el x)(hx:Loc X.env.scope x)(r:RelV v u)
    (h:∀s',Inv X pins (σ.set i (el v)) H s'→Q () s') (hf:X.fn x=true∨X.env.scope.names.lookup x=el .local:=by first|exact .inl rfl|exact .inr rfl|assumption):aC M A (storeName X.env x u) Q E s:=
  a8Y I hN hi hx r (λs' I' _=>h s' I') hf
def Inv.call'{s':ai}(I:Inv X pins σ H s)(ho:s'.os=s.os)(u:Un (frs X.stack) ch H H' s.heap s'.heap)(hok:HOk X.prog X.w H' s'.heap)(hg:og s'.gens)
    (qx:∀b∈ch,(b∈X.ex∨X.s₀.heap.objs.size≤b)∧b≠X.env.locals∧(∀x c,X.env.cells.lookup x=el c→c≠b)∧∀p∈X.pn++pins,p.1≠b):Inv X pins σ H' s':=by
  obtain⟨h',g',d',t',o'⟩:=s';have e:o'=s.os:=ho;subst e;exact I.call (g':=g') (t':=t') (d':=d') u hok hg qx
end
abbrev XK:=ah→Option au→Hp→Prop
abbrev St:=List (Option V)
abbrev VK:=V→Hp→Prop
abbrev TE:=St→Hp→VK→Prop
abbrev TT:=St→Hp→(Bool→Hp→Prop)→Prop
abbrev TA:=St→Hp→(List V→Hp→Prop)→Prop
structure Ends where
  nx:St→Hp→Prop
  rt:VK
  bk:St→Hp→Prop:=λ_ _=>False
  ct:St→Hp→Prop:=λ_ _=>False
abbrev TS:=Ends→St→Hp→Prop
def EP(X:Cx)(pins:List (au×fD))(σ:St)(Q:VK)(u:ah)(s':ai):Prop:=∃v H',Inv X pins σ H' s'∧RelV v u∧Q v H'
def TP(X:Cx)(pins:List (au×fD))(σ:St)(Q:Bool→Hp→Prop)(b:Bool)(s':ai):Prop:=∃H',Inv X pins σ H' s'∧Q b H'
def AP(X:Cx)(pins:List (au×fD))(σ:St)(Q:List V→Hp→Prop)(us:List ah)(s':ai):Prop:=∃vs H',Inv X pins σ H' s'∧Vals vs us∧Q vs H'
def SP(X:Cx)(pins:List (au×fD))(D:Ends)(f:Flow)(s':ai):Prop:=
  match f with
  |.next=>∃σ' H',Inv X pins σ' H' s'∧D.nx σ' H'
  |.brk=>∃σ' H',Inv X pins σ' H' s'∧D.bk σ' H'
  |.cont=>∃σ' H',Inv X pins σ' H' s'∧D.ct σ' H'
  |.ret u=>∃v σ' H',Inv X pins σ' H' s'∧RelV v u∧D.rt v H'
def PE(X:Cx)(e:Expr)(t:TE):Prop:=
  ∀(pins:List (au×fD)) (s:ai) (σ:St) (H:Hp) (Q:VK),Inv X pins σ H s→t σ H Q→aC (aV X.prog X.w) X.A (cy e X.env) (EP X pins σ Q) X.xe s
def PT(X:Cx)(e:Expr)(t:TT):Prop:=
  ∀(pins:List (au×fD)) (s:ai) (σ:St) (H:Hp) (Q:Bool→Hp→Prop),Inv X pins σ H s→t σ H Q→aC (aV X.prog X.w) X.A (qR e X.env (cy e X.env)) (TP X pins σ Q) X.xe s
def PW(X:Cx)(e:Expr)(t:TT):Prop:=
  ∀(whole:Sem ah) (pins:List (au×fD)) (s:ai) (σ:St) (H:Hp) (Q:Bool→Hp→Prop),Inv X pins σ H s→t σ H Q→aC (aV X.prog X.w) X.A (qR e X.env whole) (TP X pins σ Q) X.xe s
def PW.pt(h:PW X e t):PT X e t:=h _
def PA(X:Cx)(es:List Expr)(t:TA):Prop:=
  ∀(pos:ff) (pins:List (au×fD)) (s:ai) (σ:St) (H:Hp) (Q:List V→Hp→Prop),Inv X pins σ H s→t σ H Q→aC (aV X.prog X.w) X.A (spliced (cx pos (aw es X.env))) (AP X pins σ Q) X.xe s
def PS(X:Cx)(st:gM)(t:TS):Prop:=
  ∀(pins:List (au×fD)) (s:ai) (σ:St) (H:Hp) (D:Ends),Inv X pins σ H s→t D σ H→aC (aV X.prog X.w) X.A (exec st X.env) (SP X pins D) X.xe s
def PSs(X:Cx)(st:List gM)(t:TS):Prop:=
  ∀(pins:List (au×fD)) (s:ai) (σ:St) (H:Hp) (D:Ends),Inv X pins σ H s→t D σ H→aC (aV X.prog X.w) X.A (execs st X.env) (SP X pins D) X.xe s
def thn{α:Type}{t:Sem α}{Q Q':α→ai→Prop}{M:Model}{A:bD}{E:ah→ai→Prop}{s:ai}(h:aC M A t Q E s)(hQ:∀a s,Q a s→Q' a s):aC M A t Q' E s:=cX h hQ λ_ _ x=>x
section
variable {X:Cx}
def b3u(i:Nat):TE:=λσ H Q=>∃v,σ[i]?=el (el v)∧Q v H
def tC(v:V):TE:=λ_ H Q=>Q v H
def C0(hN:X.N[i]?=el x)(hv:Vis X.env.scope x)(hd:(x==("__debug__":bC))=false:=by decide)(iJ:(x==("__classdict__":bC))=false:=by decide):PE X (.Name x pos) (b3u i):=by
  intro pins s σ H Q I h;obtain⟨v,e,h⟩:=h;obtain⟨m,hn,hl⟩:=I.loc;obtain⟨u,r,l⟩:=hl i x v hN e hv;have fin:EP X pins σ Q u s:=⟨v,H,I,r,h⟩;rcases l with⟨hk,hm⟩|⟨hk,c,hc,ma⟩
  · exact wpAny_Name (wpAny_loadName_local I.ok.kind hk hn hm fin) hd
  · rcases hk with hk|hk
    · exact wpAny_Name (wpAny_loadName_cell I.ok.kind hk hc ma fin) hd
    · exact wpAny_Name (wpAny_loadName_free I.ok.kind hk hc ma fin iJ) hd
def b5S{i j pos}:PE X (.Constant (.int i) j pos) (tC (.int i)):=λ_ _ _ H _ I h=>wpAny_Constant_int ⟨.int i,H,I.tok _,⟨_,rfl⟩,h⟩
def b8e{b j pos}:PE X (.Constant (.bool b) j pos) (tC (.bl b)):=λ_ _ _ H _ I h=>Constant_bool ⟨.bl b,H,I,rfl,h⟩
def b5T{j pos}:PE X (.Constant .none j pos) (tC .non):=λ_ _ _ H _ I h=>Constant_none ⟨.non,H,I,rfl,h⟩
def Gl(X:Cx)(x:bC):Prop:=X.env.kindOf x=el .globalImplicit
def a4p(I:Inv X pins σ H s)(hg:Gl X x)(hm:X.mg x=el u)(h:Q u s)
    (hd:(x==("__debug__":bC))=false:=by decide):aC (aV X.prog X.w) X.A (cy (.Name x pos) X.env) Q E s:=
  wc I.ok.kind hg (Calls.loadGlobal_global (by rw[I.ok.glob];exact I.mod.glob.keeps I.bk) hm h) hd
def Y3(I:Inv X pins σ H s)(hg:Gl X x)(hm:X.mg x=p4)(hv:gf x=el u)(h:Q u s)
    (hn:x≠"__name__":=by decide) (hd:(x==("__debug__":bC))=false:=by decide):aC (aV X.prog X.w) X.A (cy (.Name x pos) X.env) Q E s:=by
  obtain⟨mb,h1,h2⟩:=I.mod.blt;exact wc I.ok.kind hg (Calls.loadGlobal_builtin (by rw[I.ok.glob];exact I.mod.glob.keeps I.bk) hm (by rw[I.ok.blt];exact h1.keeps I.bk) ((h2 x hn).trans hv) h) hd
def b3v(hg:Gl X x)(hm:X.mg x=el u)(r:RelV v u)(hd:(x==("__debug__":bC))=false:=by decide):PE X (.Name x pos) (tC v):=
  λ_ _ _ H _ I h=>a4p I hg hm ⟨v,H,I,r,h⟩ hd
def b3w(hg:Gl X x)(hm:X.mg x=p4)(hv:gf x=el u)(r:RelV v u)(hn:x≠"__name__":=by decide)(hd:(x==("__debug__":bC))=false:=by decide):PE X (.Name x pos) (tC v):=
  λ_ _ _ H _ I h=>Y3 I hg hm hv ⟨v,H,I,r,h⟩ hn hd
variable {a b:Expr}{ta tb:TE}{pos:ff}
def tB(t:TE):TT:=λσ H Q=>t σ H λx H1=>∃c,x=.bl c∧Q c H1
variable {tA wj:TT}{rest:List Expr}
def b9S(t u:TT):TT:=λσ H Q=>t σ H λc H1=>if c=true then u σ H1 Q else Q false H1
def tOr(t u:TT):TT:=λσ H Q=>t σ H λc H1=>if c=true then Q true H1 else u σ H1 Q
def b9T(t:TT):TT:=λσ H Q=>t σ H λc H1=>Q (!c) H1
def b3x(ha:PT X a tA):PW X (.BoolOp .And [a] pos) tA:=by
  intro wh pins s σ H Q I h;refine isTrue_and (thn (ha pins s σ H Q I h) λc s1 e=>?_);cases c with
  |true=>exact isTrue_and_nil e
  |false=>exact e
def b5U(ha:PT X a tA):PW X (.BoolOp .Or [a] pos) tA:=by
  intro wh pins s σ H Q I h;refine isTrue_or (thn (ha pins s σ H Q I h) λc s1 e=>?_);cases c with
  |false=>exact isTrue_or_nil e
  |true=>exact e
def b5V(ha:PT X a tA)(hb:PW X (.BoolOp .And (b::rest) pos) wj):PW X (.BoolOp .And (a::b::rest) pos) (b9S tA wj):=by
  intro wh pins s σ H Q I h;refine isTrue_and (thn (ha pins s σ H _ I h) λc s1 ⟨H1,I1,q1⟩=>?_);cases c with
  |true=>exact hb wh pins s1 σ H1 Q I1 q1
  |false=>exact⟨H1,I1,q1⟩
def b8f(ha:PT X a tA)(hb:PW X (.BoolOp .Or (b::rest) pos) wj):PW X (.BoolOp .Or (a::b::rest) pos) (tOr tA wj):=by
  intro wh pins s σ H Q I h;refine isTrue_or (thn (ha pins s σ H _ I h) λc s1 ⟨H1,I1,q1⟩=>?_);cases c with
  |true=>exact⟨H1,I1,q1⟩
  |false=>exact hb wh pins s1 σ H1 Q I1 q1
def b5W(ha:PT X a tA):PT X (.UnaryOp .Not a pos) (b9T tA):=by
  intro pins s σ H Q I h;exact isTrue_not (ha pins s σ H (λc H1=>Q (!c) H1) I h)
def b8g(ta tb:TE):TE:=λσ H Q=>ta σ H λx H1=>∃c,x=.bl c∧if c=true then tb σ H1 Q else Q (.bl false) H1
def b8h(ta:TE):TE:=λσ H Q=>ta σ H λx H1=>∃c,x=.bl c∧Q (.bl (!c)) H1
def b5X{op}(h:PE X a t):PE X (.BoolOp op [a] pos) t:=λpins s σ H Q I hw=>BoolOp_one (h pins s σ H Q I hw)
def b5Y(ha:PE X a ta)(hb:PE X (.BoolOp .And (b::rest) pos) tb):PE X (.BoolOp .And (a::b::rest) pos) (b8g ta tb):=by
  intro pins s σ H Q I h;refine BoolOp_and (thn (ha pins s σ H _ I h) λv s1 ⟨x,H1,I1,r1,q1⟩=>?_);obtain⟨c,rfl,q1⟩:=q1;cases r1
  refine eR ?_;cases c with
  |true=>exact hb pins s1 σ H1 Q I1 q1
  |false=>exact⟨.bl false,H1,I1,rfl,q1⟩
def b5Z(ha:PE X a ta):PE X (.UnaryOp .Not a pos) (b8h ta):=by
  intro pins s σ H Q I h;refine UnaryOp_ (thn (ha pins s σ H _ I h) λv s1 ⟨x,H1,I1,r1,q1⟩=>?_);obtain⟨c,rfl,q1⟩:=q1;cases r1
  exact not_of (eR ⟨.bl (!c),H1,I1,rfl,q1⟩)
def tIf(t:TT)(ta tb:TE):TE:=λσ H Q=>t σ H λc H1=>if c=true then ta σ H1 Q else tb σ H1 Q
def b0M{c:Expr}(hc:PT X c tA)(ha:PE X a ta)(hb:PE X b tb):PE X (.IfExp c a b pos) (tIf tA ta tb):=by
  intro pins s σ H Q I h;refine wpAny_IfExp (thn (hc pins s σ H _ I h) λd s1 ⟨H1,I1,q1⟩=>?_);cases d with
  |true=>exact ha pins s1 σ H1 Q I1 q1
  |false=>exact hb pins s1 σ H1 Q I1 q1
end
def SqL(K:ag)(H:Hp)(a:au)(xs:List V):Prop:=
  Rd H a (.lst xs)∨
    ∃(o:fD) (cJ:Array ah) (n:Nat),K.lookup a=el o∧o.cls=.type "list"∧o.dict=p4∧o.data=.seq cJ n∧cJ.size≤aS∧Vals xs cJ.toList
def SqT(K:ag)(H:Hp)(a:au)(xs:List V):Prop:=
  Rd H a (.tup xs)∨
    ∃(o:fD) (cJ:Array ah) (n:Nat),K.lookup a=el o∧o.cls=.type "tuple"∧o.data=.seq cJ n∧cJ.size≤aS∧Vals xs cJ.toList
def b9U:ah→Option V
  |.none=>el .non
  |.bool b=>el (.bl b)
  |.int i _=>el (.int i)
  |.str x _=>el (.str x)
  |.bytes b _=>el (.byt b)
  |.float b _=>el (.flt b)
  |.ref a=>el (.ref a)
  |.type n=>el (.ty n)
  |_=>p4
def RelV.abs(r:RelV x u):b9U u=el x:=by
  cases x with
  |non=>cases r;rfl
  |bl _=>cases r;rfl
  |int _=>obtain⟨t,rfl⟩:=r;rfl
  |str _=>obtain⟨t,rfl⟩:=r;rfl
  |byt _=>obtain⟨t,rfl⟩:=r;rfl
  |flt _=>obtain⟨t,rfl⟩:=r;rfl
  |ref _=>cases r;rfl
  |ty _=>cases r;rfl
def RelV.inj(r:RelV x u)(q:RelV y u):x=y:=aK (r.abs.symm.trans q.abs)
theorem Vals.inj:∀{xs ys:List V} {us:List ah},Vals xs us→Vals ys us→xs=ys
  |_,_,_,.nil,.nil=>rfl
  |_,_,_,.cons r t,.cons r' t'=>by rw[r.inj r',Vals.inj t t']
section
variable {X:Cx}{pins:List (au×fD)}{σ:St}{H:Hp}{s:ai}{a:au}{xs ys:List V}
def SqL.of{K:ag}(h:H a=el (.lst xs)):SqL K H a xs:=.inl (.inl h)
def SqT.of{K:ag}(h:H a=el (.tup xs)):SqT K H a xs:=.inl (.inl h)
def Inv.list(I:Inv X pins σ H s)(h:SqL X.K H a xs):∃cJ:List ah,Vals xs cJ∧PlainL s.heap a cJ.toArray∧xs.length≤aS:=by
  rcases h with h|⟨o,cJ,n,hk,hc,hd,hs,hz,r⟩
  · obtain⟨z,cJ,n,r,e⟩:=h.ok I.hok
    exact⟨cJ,r,⟨_,n,e,rfl,rfl,rfl⟩,z⟩
  · refine⟨cJ.toList,r,⟨o,n,I.kIn a o hk,hc,hd,by simpa using hs⟩,?_⟩
    have e:=r.length;simp only[bW]at e;omega
def Inv.tuple(I:Inv X pins σ H s)(h:SqT X.K H a xs):∃cJ:List ah,Vals xs cJ∧IsTup s.heap a cJ.toArray∧xs.length≤aS:=by
  rcases h with h|⟨o,cJ,n,hk,hc,hs,hz,r⟩
  · obtain⟨z,cJ,r,p⟩:=h.ok I.hok
    exact⟨cJ,r,p,z⟩
  · refine⟨cJ.toList,r,⟨o,I.kIn a o hk,hc,n,by simpa using hs⟩,?_⟩
    have e:=r.length;simp only[bW]at e;omega
def Inv.list_inj(I:Inv X pins σ H s)(h:SqL X.K H a xs)(h':SqL X.K H a ys):xs=ys:=by
  obtain⟨cJ,r,⟨o,n,e,_,_,d⟩,_⟩:=I.list h;obtain⟨its',r',⟨o',n',e',_,_,d'⟩,_⟩:=I.list h';rw[e]at e';cases e';rw[d]at d'
  injection d' with d1 _
  have:cJ=its':=by simpa using fC Array.toList d1
  subst this;exact r.inj r'
def Inv.tuple_inj(I:Inv X pins σ H s)(h:SqT X.K H a xs)(h':SqT X.K H a ys):xs=ys:=by
  obtain⟨cJ,r,⟨o,e,_,n,d⟩,_⟩:=I.tuple h;obtain⟨its',r',⟨o',e',_,n',d'⟩,_⟩:=I.tuple h';rw[e]at e';cases e';rw[d]at d'
  injection d' with d1 _
  have:cJ=its':=by simpa using fC Array.toList d1
  subst this;exact r.inj r'
end
abbrev Cx.wish(X:Cx)(E:ah→ai→Prop):Cx:={X with xe:=E}
abbrev Cx.nox(X:Cx):Cx:=X.wish λ_ _=>False
theorem Cx.Ok.wish{X:Cx}(ok:X.Ok)(E:ah→ai→Prop):(X.wish E).Ok:=
  ⟨ok.mod,ok.kind,ok.glob,ok.blt,ok.above,ok.inj,ok.has,ok.cab,ok.hd,ok.frames,ok.stk,ok.exf,ok.bs,ok.bsz,ok.noex,ok.exfs,ok.funs,ok.frf,ok.tabs⟩
def Cx.Ok.unwish{X:Cx}(ok:(X.wish E).Ok):X.Ok:=
  ⟨ok.mod,ok.kind,ok.glob,ok.blt,ok.above,ok.inj,ok.has,ok.cab,ok.hd,ok.frames,ok.stk,ok.exf,ok.bs,ok.bsz,ok.noex,ok.exfs,ok.funs,ok.frf,ok.tabs⟩
section
variable {X:Cx}{pins:List (au×fD)}{σ:St}{H:Hp}{s:ai}{E:ah→ai→Prop}
theorem Inv.wish(I:Inv X pins σ H s)(E:ah→ai→Prop):Inv (X.wish E) pins σ H s:=⟨I.ok.wish E,I.os,I.bare,I.base,I.loc,I.cell,I.free,I.freeC,I.pin,I.hok,I.len⟩
theorem Inv.unwish(I:Inv (X.wish E) pins σ H s):Inv X pins σ H s:=⟨I.ok.unwish,I.os,I.bare,I.base,I.loc,I.cell,I.free,I.freeC,I.pin,I.hok,I.len⟩
theorem SP.unwish(h:SP (X.wish E) pins D f s'):SP X pins D f s':=by
  cases f with
  |next=>obtain⟨σ',H',I,q⟩:=h;exact⟨σ',H',I.unwish,q⟩
  |brk=>obtain⟨σ',H',I,q⟩:=h;exact⟨σ',H',I.unwish,q⟩
  |cont=>obtain⟨σ',H',I,q⟩:=h;exact⟨σ',H',I.unwish,q⟩
  |ret u=>obtain⟨v,σ',H',I,r,q⟩:=h;exact⟨v,σ',H',I.unwish,r,q⟩
theorem PSs.nox{st:List gM}{t:TS}(h:PSs X.nox st t):PSs X st t:=λpins s σ H D I hw=>
  cX (h pins s σ H D (I.wish _) hw) (λ_ _ q=>q.unwish) λ_ _ z=>cK z
end
section
variable {X:Cx}{st:gM}{rest:List gM}{t u:TS}{e:Expr}{te:TE}{pos:ff}
def b0N:TS:=λD σ H=>D.nx σ H
def b6a(t u:TS):TS:=λD σ H=>t {D with nx:=u D} σ H
def a4q:PSs X [] b0N:=λ_ _ σ H _ I h=>lX ⟨σ,H,I,h⟩
def S8(h1:PS X st t)(h2:PSs X rest u):PSs X (st::rest) (b6a t u):=by
  intro pins s σ H D I h;refine wpAny_execs_cons (thn (h1 pins s σ H {D with nx:=u D} I h) λf s1 q=>?_);cases f with
  |next=>
    obtain⟨σ',H',I',q⟩:=q;exact h2 pins s1 σ' H' D I' q
  |ret v=>exact q
  |brk=>exact q
  |cont=>exact q
def b3y(h1:PS X st t):PSs X [st] t:=by
  intro pins s σ H D I h;refine wpAny_execs_cons (thn (h1 pins s σ H D I h) λf s1 q=>?_);cases f with
  |next=>exact lX q
  |ret v=>exact q
  |brk=>exact q
  |cont=>exact q
def b8i:TS:=λD σ H=>D.ct σ H
def a5m:PS X (.Continue pos) b8i:=λ_ _ σ H _ I h=>wpAny_Continue ⟨σ,H,I,h⟩
def Inv.quiet{pins:List (au×fD)}{σ:St}{H:Hp}{s:ai}(I:Inv X pins σ H s):interactive X.env=false:=by simp[interactive,I.ok.kind]
def b8j(te:TE):TS:=λD σ H=>te σ H λ_ H1=>D.nx σ H1
def Z7(he:PE X e te)(hs:fI e p4 pos.line X.env=pure false:=by rfl):PS X (.Expr e pos) (b8j te):=by
  intro pins s σ H D I h;exact wpAny_Expr_any (thn (he pins s σ H _ I h) λv s1 ⟨x,H1,I1,r1,q1⟩=>⟨σ,H1,I1,q1⟩) I.quiet hs
def b9V(te:TE):TS:=λD σ H=>te σ H D.rt
def b0O(he:PE X e te):PS X (.Return (el e) pos) (b9V te):=by
  intro pins s σ H D I h;exact wpAny_Return_some (thn (he pins s σ H _ I h) λv s1 ⟨x,H1,I1,r1,q1⟩=>⟨x,σ,H1,I1,r1,q1⟩)
def b8k(c:TT)(t u:TS):TS:=λD σ H=>c σ H λb H1=>if b=true then t D σ H1 else u D σ H1
def b5p{c:Expr}{a b:List gM}{tc:TT}(hc:PT X c tc)(ha:PSs X a t)(hb:PSs X b u):PS X (.If c a b pos) (b8k tc t u):=by
  intro pins s σ H D I h;refine wpAny_If (thn (hc pins s σ H _ I h) λd s1 ⟨H1,I1,q1⟩=>?_);cases d with
  |true=>exact ha pins s1 σ H1 D I1 q1
  |false=>exact hb pins s1 σ H1 D I1 q1
def b6b:TS:=λ_ _ _=>False
def b0P:PS X st b6b:=λ_ _ _ _ _ _ h=>h.elim
end
abbrev TG:=V→St→Hp→(St→Hp→Prop)→Prop
abbrev TGs:=List V→St→Hp→(St→Hp→Prop)→Prop
def PG(X:Cx)(target:Expr)(t:TG):Prop:=
  ∀(pins:List (au×fD)) (s:ai) (σ:St) (H:Hp) (v:V) (u:ah) (Q:St→Hp→Prop),Inv X pins σ H s→RelV v u→t v σ H Q→
    aC (aV X.prog X.w) X.A (oJ target X.env u) (λ_ s'=>∃σ' H',Inv X pins σ' H' s'∧Q σ' H') X.xe s
def PGs(X:Cx)(ts:List Expr)(t:TGs):Prop:=
  ∀(pins:List (au×fD)) (s:ai) (σ:St) (H:Hp) (vs:List V) (us:List ah) (Q:St→Hp→Prop),Inv X pins σ H s→Vals vs us→t vs σ H Q→
    aC (aV X.prog X.w) X.A (assignInOrder ((iq ts X.env).map (·.2)) us) (λ_ s'=>∃σ' H',Inv X pins σ' H' s'∧Q σ' H') X.xe s
section
variable {X:Cx}{pos:ff}
def S9(i:Nat):TG:=λv σ H Q=>Q (σ.set i (el v)) H
def x0(hN:X.N.Nodup)(hi:X.N[i]?=el x)(hx:Loc X.env.scope x)(hf:X.fn x=true∨X.env.scope.names.lookup x=el .local:=by first|exact .inl rfl|exact .inr rfl|assumption):PG X (.Name x pos) (S9 i):=by
  intro pins s σ H v u Q I r h;exact wpAny_assign_Name (a1X I hN hi hx r (λs' I'=>⟨_,H,I',h⟩) hf)
def b6c:TGs:=λvs σ H Q=>vs=[]∧Q σ H
def a5n(t:TG)(u:TGs):TGs:=λvs σ H Q=>∃v r,vs=v::r∧t v σ H λσ' H'=>u r σ' H' Q
def a1K:PGs X [] b6c:=by
  intro pins s σ H vs us Q I r h;obtain⟨e,h⟩:=h;subst e;cases r
  exact assignInOrder_nil ⟨σ,H,I,h⟩
def F9{e:Expr}{es:List Expr}{t:TG}{u:TGs}(h1:PG X e t)(h2:PGs X es u)
    (hs:(iq (e::es) X.env).map (·.2)=oJ e X.env::(iq es X.env).map (·.2):=by rfl):PGs X (e::es) (a5n t u):=by
  intro pins s σ H vs us Q I r h;obtain⟨v,vr,e1,h⟩:=h;subst e1;cases r with
  |cons r rr=>
    rw[hs];refine assignInOrder_cons (thn (h1 pins s σ H _ _ _ I r h) λ_ s1 ⟨σ1,H1,I1,q1⟩=>?_);exact h2 pins s1 σ1 H1 _ _ Q I1 rr q1
def b8l(K:ag)(n:Nat)(t:TGs):TG:=λv σ H Q=>∃a xs,v=.ref a∧SqT K H a xs∧xs.length=n∧t xs σ H Q
def a6F(hc:X.calm=true)(h:PGs X es t)
    (hn:(iq es X.env).length=n:=by rfl) (qW:(iq es X.env).findIdx? (·.1)=p4:=by rfl):PG X (.Tuple es k pos) (b8l X.K n t):=by
  intro pins s σ H v u Q I r hw;obtain⟨a,xs,e1,hq,hl,hw⟩:=hw;subst e1;cases r
  obtain⟨cJ,rv,ht,hz⟩:=I.tuple hq;refine assign_Tuple_tuple (I.ok.hd hc) ht (by simp[hn,←hl,rv.length]) qW λh' hx=>?_
  have I1:Inv X pins σ H {s with heap:=h'}:=I.kept (t':=s.toks) λb o e=>hx b o (a_ (aG e)) e
  exact h pins _ σ H xs _ Q I1 (by simpa using rv) hw
def b6d(te:TE)(g:TG):TS:=λD σ H=>te σ H λx H1=>g x σ H1 D.nx
def b6e{tg e:Expr}{te:TE}{g:TG}(he:PE X e te)(hg:PG X tg g)(hs:swapsWithSole [tg] e pos.line X.env=pure false:=by rfl)(hw:swappedStores [tg] e X.env=pure p4:=by rfl)
    (h1:(iq [tg] X.env).map (·.2)=[oJ tg X.env]:=by rfl):PS X (.Assign [tg] e pos) (b6d te g):=by
  intro pins s σ H D I h;refine wpAny_Assign_stores (thn (he pins s σ H _ I h) λv s1 ⟨x,H1,I1,r1,q1⟩=>?_) hs hw;rw[h1];exact thn (hg pins s1 σ H1 x v _ I1 r1 q1) λ_ s2 q=>q
def b0Q{i:Nat}{x:bC}{e:Expr}{te:TE}{pos':ff}(hN:X.N.Nodup)(hi:X.N[i]?=el x)(hx:Loc X.env.scope x)(he:PE X e te)(hs:fI e (el (.Name x pos')) pos.line X.env=pure false:=by rfl)(hf:X.fn x=true∨X.env.scope.names.lookup x=el .local:=by first|exact .inl rfl|exact .inr rfl|assumption) :
    PS X (.Assign [.Name x pos'] e pos) (b6d te (S9 i)):=by
  intro pins s σ H D I h;refine wpAny_Assign_Name (thn (he pins s σ H _ I h) λv s1 ⟨y,H1,I1,r1,q1⟩=>?_) hs;exact a1X I1 hN hi hx r1 (λs2 I2=>⟨_,H1,I2,q1⟩) hf
end
section
variable {X:Cx}{pos:ff}
def b6f(c:TT)(tb:TS):TS:=λD σ H=>∃W:Nat→St→Hp→Prop,(∃m,W m σ H)∧∀m σ H,W m σ H→
  c σ H λb H1=>if b=true then ∃N:St→Hp→Prop,(∀σ' H',N σ' H'→∃m',m'<m∧W m' σ' H')∧tb {D with nx:=N,ct:=N,bk:=D.nx} σ H1 else D.nx σ H1
def b0R{c:Expr}{body:List gM}{tc:TT}{tb:TS}(hp:nD (aV X.prog X.w) X.A X.env X.xe)(hc:PT X c tc)(hb:PSs X body tb):PS X (.While c body [] pos) (b6f tc tb):=by
  intro pins s σ H D I h;obtain⟨W,⟨m0,w0⟩,turn⟩:=h;refine wpAny_While (codeAny_whileLoop (λn s'=>∃σ' H',Inv X pins σ' H' s'∧W n σ' H') ?_ m0 ⟨σ,H,I,w0⟩);rintro n s1 ⟨σ1,H1,I1,w1⟩;refine gi hp (thn (hc pins s1 σ1 H1 _ I1 (turn n σ1 H1 w1)) λb s2 ⟨H2,I2,q2⟩=>?_);cases b with
  |true=>
    obtain⟨N,hN,q2⟩:=q2;rw[aB rfl];refine gi hp (thn (hb pins s2 σ1 H2 _ I2 q2) λf s3 q3=>?_);cases f with
    |next=>
      obtain⟨σ3,H3,I3,n3⟩:=q3;obtain⟨m',hm,w3⟩:=hN σ3 H3 n3;exact⟨m',hm,σ3,H3,I3,w3⟩
    |cont=>
      obtain⟨σ3,H3,I3,n3⟩:=q3;obtain⟨m',hm,w3⟩:=hN σ3 H3 n3;exact⟨m',hm,σ3,H3,I3,w3⟩
    |brk=>exact q3
    |ret v=>exact q3
  |false=>
    rw[aI aQ];exact lX ⟨σ1,H2,I2,q2⟩
end
structure It where
  go:Nat→Hp→Prop
  yld:Nat→Hp→V→Hp→Prop
  stop:Nat→Hp→Prop
def Z8(X:Cx)(pins:List (au×fD))(H:Hp)(b:au):Prop:=
  H b=p4∧b≠X.env.locals∧b∉X.fs∧(b∈X.ex∨X.s₀.heap.objs.size≤b)∧(∀x c,X.env.cells.lookup x=el c→c≠b)∧∀p∈X.pn++pins,p.1≠b
def Inv.fpOk(I:Inv X pins σ H s)(hb:s.heap.objs.size≤b)(hn:H' b=p4):Z8 X pins H' b:=by
  refine⟨hn,dQ (bw I.lt hb),I.nofs hb,.inr (cw I.sz hb),λx c e z=>?_,λp hp z=>?_⟩
  · obtain⟨v,q⟩:=I.cell x c e
    exact absurd (bw q.lt (by rw[z];exact hb)) (dt _)
  · exact absurd (bw (aG (I.pin p hp).1) (by rw[z];exact hb)) (dt _)
structure Turn (P:br) (w:bL) (K:ag) (tg:Expr) (J:It) (fp:List au) (it:au) (tn:Nat→bN→Prop):Prop where
  mem:it∈fp
  obj:∀i h,tn i h→∀b∈fp,∃o,h.get? b=el o∧∀v,o.data≠.cell v
  keep:∀i h h',tn i h→(∀b∈fp,∀o,h.get? b=el o→h'.get? b=el o)→tn i h'
  item:∀(X:Cx),X.prog=P→X.w=w→X.K=K→X.calm=true→∀(i:Nat) (pins:List (au×fD)) (s:ai) (σ:St) (H:Hp) (E:ah→ai→Prop),Inv X pins σ H s→(∀b∈fp,Z8 X pins H b)→tn i s.heap→J.go i H→
    aC (aV P w) X.A (fP (.ref it)) (λr s1=>∃u,r=el u∧
      aC (aV P w) X.A (l_ tg (.ref it) u) (λ_ s2=>∃x H',Inv X pins σ H' s2∧RelV x u∧J.yld i H x H'∧tn (i+1) s2.heap∧∀b∈fp,H' b=p4) E s1) E s
  done:∀(X:Cx),X.prog=P→X.w=w→X.K=K→X.calm=true→∀(i:Nat) (pins:List (au×fD)) (s:ai) (σ:St) (H:Hp) (E:ah→ai→Prop),Inv X pins σ H s→(∀b∈fp,Z8 X pins H b)→tn i s.heap→J.stop i H→
    aC (aV P w) X.A (fP (.ref it)) (λr s1=>r=p4∧Inv X pins σ H s1) E s
  self:∀(A:bD) (i:Nat) (s:ai) (Q:ah→ai→Prop) (E:ah→ai→Prop),tn i s.heap→Q (.ref it) s→aC (aV P w) A (qO (.ref it)) Q E s
abbrev TI:=St→Hp→(It→Hp→Prop)→Prop
def PIE(X:Cx)(pins:List (au×fD))(σ:St)(tg:Expr)(R:It→Hp→Prop)(xJ:ah)(s2:ai):Prop:=
  ∃(it:au) (fp:List au) (tn:Nat→bN→Prop) (J:It) (H':Hp),xJ=.ref it∧Inv X pins σ H' s2∧Turn X.prog X.w X.K tg J fp it tn∧tn 0 s2.heap∧(∀b∈fp,Z8 X pins H' b)∧R J H'
def PI(X:Cx)(tg iter:Expr)(wi:TI):Prop:=
  ∀(pins:List (au×fD)) (s:ai) (σ:St) (H:Hp) (R:It→Hp→Prop),Inv X pins σ H s→wi σ H R→
    aC (aV X.prog X.w) X.A (cy iter X.env) (λv s1=>aC (aV X.prog X.w) X.A (qO v) (PIE X pins σ tg R) X.xe s1) X.xe s
def a5o{s:ai}(ho:s.heap.get? it=el o)(hc:o.cls=.type n)(hd:o.data=.fields vs)
    (hn:["enumerate","zip","dict_itemiterator","dict_reverseitemiterator","odict_iterator","itertools.zip_longest","itertools.pairwise"].contains n=false) (hQ:Q () s):aC M A (l_ tg (.ref it) u) Q E s:=by
  unfold l_;cases tg<;>first
    |exact ae hQ
    | (cases u<;>first
        |exact ae hQ
        | (refine ab (lK ho ?_)
           rw[hc,hd];show aC M A (if (["enumerate","zip","dict_itemiterator","dict_reverseitemiterator","odict_iterator","itertools.zip_longest","itertools.pairwise"].contains n&&vs[0]?==el (cY _))=true then _ else _) Q E s;rw[aI (by intro h;rw[hn,Bool.false_and]at h;cases h)];exact ae hQ))
def Itl(K:ag)(a:au):It:=
  ⟨λi H=>∃xs x,SqL K H a xs∧xs[i]?=el x,λi H x H'=>H'=H∧∀xs,SqL K H a xs→xs[i]?=el x,λi H=>∃xs,SqL K H a xs∧xs.length≤i⟩
def Itt(K:ag)(a:au):It:=
  ⟨λi H=>∃xs x,SqT K H a xs∧xs[i]?=el x,λi H x H'=>H'=H∧∀xs,SqT K H a xs→xs[i]?=el x,λi H=>∃xs,SqT K H a xs∧xs.length≤i⟩
def Itr(lo:Int)(n:Nat):It:=⟨λi _=>i<n,λi H x H'=>H'=H∧x=.int (lo+i),λi _=>n≤i⟩
def a8Z{P:br}{w:bL}{K:ag}{tg:Expr}(a it:au):Turn P w K tg (Itl K a) [it] it (λi h=>h.IsListIter it a i) where
  mem:=by simp
  obj:=λi h st b hb=>by
    have e:b=it:=by simpa using hb
    subst e;obtain⟨o,e,c,d⟩:=st;exact⟨o,e,λv z=>by rw[d]at z;cases z⟩
  keep:=λi h h' st k=>st.at λo e=>k it (by simp) o e
  item:=by
    intro X hP hw hK hc i pins s σ H E I hf st hg;subst hP hw hK;obtain⟨xs,x,hq,hx⟩:=hg;obtain⟨cJ,rv,p,hz⟩:=I.list hq;obtain⟨u,hu,ru⟩:=rv.get hx;obtain⟨f0,f1,f2,f3,f4,f5⟩:=hf it (by simp);refine wpAny_pyNext_list_item st p.isList (x:=u) (by simpa using hu) λh' lM sb=>?_
    have I1:Inv X pins σ H {s with heap:=h'}:=I.turned (t':=s.toks) (λb o hb e=>(sb.2 b hb).trans e) f0 f1 f3 f4 f5;obtain⟨o,e,c,d⟩:=id lM;exact⟨u,rfl,a5o (s:={s with heap:=h'}) e c d (by decide) ⟨x,H,I1,ru,⟨rfl,λys hy=>by rw[I.list_inj hy hq];exact hx⟩,lM,λb hb=>(hf b hb).1⟩⟩
  done:=by
    intro X hP hw hK hc i pins s σ H E I hf st hg;subst hP hw hK;obtain⟨xs,hq,hx⟩:=hg;obtain⟨cJ,rv,p,hz⟩:=I.list hq;obtain⟨f0,f1,f2,f3,f4,f5⟩:=hf it (by simp);have hl:=rv.length;exact wpAny_pyNext_list_end (I.ok.hd hc) st p.isList (by simp;omega) λh' eb=>⟨rfl,I.turned (t':=s.toks) (λb o hb e=>eb b o hb e) f0 f1 f3 f4 f5⟩
  self:=λ_ _ _ _ _ st h=>wpAny_pyIter_listiter st h
def a6G{P:br}{w:bL}{K:ag}{tg:Expr}(a it:au):Turn P w K tg (Itt K a) [it] it (λi h=>h.IsTupleIter it a i) where
  mem:=by simp
  obj:=λi h st b hb=>by
    have e:b=it:=by simpa using hb
    subst e;obtain⟨o,e,c,d⟩:=st;exact⟨o,e,λv z=>by rw[d]at z;cases z⟩
  keep:=λi h h' st k=>st.at λo e=>k it (by simp) o e
  item:=by
    intro X hP hw hK hc i pins s σ H E I hf st hg;subst hP hw hK;obtain⟨xs,x,hq,hx⟩:=hg;obtain⟨cJ,rv,p,hz⟩:=I.tuple hq;obtain⟨u,hu,ru⟩:=rv.get hx;obtain⟨f0,f1,f2,f3,f4,f5⟩:=hf it (by simp);refine wpAny_pyNext_tuple_item st (show s.heap.IsTuple a cJ.toArray from p) (x:=u) (by simpa using hu) λh' lM sb=>?_
    have I1:Inv X pins σ H {s with heap:=h'}:=I.turned (t':=s.toks) (λb o hb e=>(sb.2 b hb).trans e) f0 f1 f3 f4 f5;obtain⟨o,e,c,d⟩:=id lM;exact⟨u,rfl,a5o (s:={s with heap:=h'}) e c d (by decide) ⟨x,H,I1,ru,⟨rfl,λys hy=>by rw[I.tuple_inj hy hq];exact hx⟩,lM,λb hb=>(hf b hb).1⟩⟩
  done:=by
    intro X hP hw hK hc i pins s σ H E I hf st hg;subst hP hw hK;obtain⟨xs,hq,hx⟩:=hg;obtain⟨cJ,rv,p,hz⟩:=I.tuple hq;obtain⟨f0,f1,f2,f3,f4,f5⟩:=hf it (by simp);have hl:=rv.length;exact wpAny_pyNext_tuple_end (I.ok.hd hc) st (show s.heap.IsTuple a cJ.toArray from p) (by simp;omega) λh' eb=>⟨rfl,I.turned (t':=s.toks) (λb o hb e=>eb b o hb e) f0 f1 f3 f4 f5⟩
  self:=λ_ _ _ _ _ st h=>wpAny_pyIter_tupleiter st h
def a6H{P:br}{w:bL}{K:ag}{tg:Expr}(it:au)(lo:Int)(n:Nat):Turn P w K tg (Itr lo n) [it] it (λi h=>IsRangeIter h it (lo+(i:Nat)*1) ((n:Int)-(i:Nat)) 1) where
  mem:=by simp
  obj:=λi h st b hb=>by
    have e:b=it:=by simpa using hb
    subst e;exact⟨_,st,λv z=>by
      have z':Data.fields _=Data.cell v:=z;cases z'⟩
  keep:=λi h h' st k=>k it (by simp) _ st
  item:=by
    intro X hP hw hK hc i pins s σ H E I hf st hg;subst hP hw hK;obtain⟨f0,f1,f2,f3,f4,f5⟩:=hf it (by simp);have W:=Walks.range (prog:=X.prog) (w:=X.w) (I.ok.hd hc) it lo 1 n;refine W.item i s _ _ hg st λv h' tk hv lM kk=>?_
    obtain⟨t,rfl⟩:=hv;have I1:Inv X pins σ H {s with heap:=h',toks:=tk}:=I.turned (λb o hb e=>kk b o (by simpa using hb) e) f0 f1 f3 f4 f5;refine⟨_,rfl,a5o (s:={s with heap:=h',toks:=tk}) (n:="range_iterator") lM rfl rfl (by decide) ⟨.int (lo+i),H,I1,⟨t,?_⟩,⟨rfl,rfl⟩,lM,λb hb=>(hf b hb).1⟩⟩;rw[Int.mul_one]
  done:=by
    intro X hP hw hK hc i pins s σ H E I hf st hg;subst hP hw hK;obtain⟨f0,f1,f2,f3,f4,f5⟩:=hf it (by simp);exact wpAny_pyNext_range_end (I.ok.hd hc) st (by have:n≤i:=hg;omega) λh' eb=>⟨rfl,I.turned (t':=s.toks) (λb o hb e=>eb b o hb e) f0 f1 f3 f4 f5⟩
  self:=λ_ _ _ _ _ st h=>wpAny_pyIter_rangeiter st h
section
variable {X:Cx}{tg:Expr}
def b8m(K:ag)(tl:TE):TI:=λσ H R=>tl σ H λx H1=>∃a,x=.ref a∧(∃xs,SqL K H1 a xs)∧R (Itl K a) H1
def b9W(K:ag)(tl:TE):TI:=λσ H R=>tl σ H λx H1=>∃a,x=.ref a∧(∃xs,SqT K H1 a xs)∧R (Itt K a) H1
def b3z{l:Expr}{tl:TE}(hl:PE X l tl):PI X tg l (b8m X.K tl):=by
  intro pins s σ H R I h;refine thn (hl pins s σ H _ I h) λv s1 ⟨x,H1,I1,r1,q1⟩=>?_
  obtain⟨a,e,⟨xs,hq⟩,q⟩:=q1;subst e;cases r1
  obtain⟨cJ,rv,p,hz⟩:=I1.list hq;refine oY p.isList ?_;refine⟨s1.heap.objs.size,[s1.heap.objs.size],_,_,H1,rfl,I1.kept (t':=s1.toks) λb o e=>af _ e,a8Z a _,⟨_,aE _ rfl,rfl,rfl⟩,λb hb=>?_,q⟩;have e:b=s1.heap.objs.size:=by simpa using hb
  subst e;exact I1.fpOk (aD _) (I1.hok.fresh (aD _))
def b6g(hl:PE X l tl):PI X tg l (b9W X.K tl):=by
  intro pins s σ H R I h;refine thn (hl pins s σ H _ I h) λv s1 ⟨x,H1,I1,r1,q1⟩=>?_
  obtain⟨a,e,⟨xs,hq⟩,q⟩:=q1;subst e;cases r1
  obtain⟨cJ,rv,p,hz⟩:=I1.tuple hq;refine oh (show s1.heap.IsTuple a cJ.toArray from p) ?_;refine⟨s1.heap.objs.size,[s1.heap.objs.size],_,_,H1,rfl,I1.kept (t':=s1.toks) λb o e=>af _ e,a6G a _,⟨_,aE _ rfl,rfl,rfl⟩,λb hb=>?_,q⟩;have e:b=s1.heap.objs.size:=by simpa using hb
  subst e;exact I1.fpOk (aD _) (I1.hok.fresh (aD _))
def b0S{pins:List (au×fD)}{σ:St}{H:Hp}{s:ai}{R:It→Hp→Prop}{E:ah→ai→Prop}{lo hi:Int}{t u v:Tok}{tk:Nat}(I:Inv X pins σ H s)(h1:-(2^62)≤lo)(h2:lo<2^62)(h3:-(2^62)≤hi)(h4:hi<2^62)
    (q:R (Itr lo (hi-lo).toNat) H):aC (aV X.prog X.w) X.A (qO (.ref s.heap.objs.size)) (PIE X pins σ tg R) E {s with heap:=s.heap.push {cls:=.type "range",data:=.fields #[.int lo t,.int hi u,.int 1 v]},toks:=tk}:=by
  refine wpAny_pyIter_range (IsRange.new ..) (small_one h1 h2 h3 h4) ?_;have I1:Inv X pins σ H {s with heap:=s.heap.push {cls:=.type "range",data:=.fields #[.int lo t,.int hi u,.int 1 v]},toks:=tk}:=I.kept λb o e=>af _ e
  refine⟨(s.heap.push {cls:=.type "range",data:=.fields #[.int lo t,.int hi u,.int 1 v]}).objs.size,[(s.heap.push {cls:=.type "range",data:=.fields #[.int lo t,.int hi u,.int 1 v]}).objs.size],_,_,H,rfl,
    I1.kept (t':=tk) λb o e=>af _ e,a6H _ lo (hi-lo).toNat,?_,λb hb=>?_,q⟩
  · have e1:lo+((0:Nat):Int)*1=lo:=by simp
    have e2:(((hi-lo).toNat:Nat):Int)-((0:Nat):Int)=Builtin.Range.rangeSize lo hi 1:=by rw[rangeSize_one];split<;>omega
    show IsRangeIter _ _ (lo+((0:Nat):Int)*1) ((((hi-lo).toNat:Nat):Int)-((0:Nat):Int)) 1;rw[e1,e2];exact aE _ rfl
  · have e:b=(s.heap.push {cls:=.type "range",data:=.fields #[.int lo t,.int hi u,.int 1 v]}).objs.size:=by simpa using hb
    subst e;exact I1.fpOk (aD _) (I1.hok.fresh (aD _))
def b8n(ta:TA):TI:=λσ H R=>ta σ H λvs H1=>∃j:Int,vs=[.int j]∧-(2^62)≤j∧j<2^62∧R (Itr 0 j.toNat) H1
def a9a{a:Expr}{ta:TA}{p pos:ff}(hg:Gl X "range")(hm:X.mg "range"=p4)(ha:PA X [a] ta)(hs:aw [a] X.env=[(false,cy a X.env)]:=by rfl):PI X tg (.Call (.Name "range" p) [a] [] pos) (b8n ta):=by
  intro pins s σ H R I h;refine Call_ (Y3 I hg hm boot_range (eQ (thn (ha pos pins s σ H _ I h) λus s1 ⟨vs,H1,I1,r1,q1⟩=>?_) hs rfl));obtain⟨j,e,q1,q2,q⟩:=q1;subst e;cases r1 with
  |cons r rr=>
    cases rr
    obtain⟨t,rfl⟩:=r;exact call_range_1 (b0S I1 (by omega) (by omega) q1 q2 (by simpa using q))
def b9X(wi:TI)(g:TG)(tb:TS):TS:=λD σ H=>wi σ H λJ H1=>∃W:Nat→Nat→St→Hp→Prop,(∃m,W 0 m σ H1)∧∀i m σ H,W i m σ H→
  (J.stop i H∧D.nx σ H)∨(J.go i H∧∃N:St→Hp→Prop,(∀σ' H',N σ' H'→∃m',m'<m∧W (i+1) m' σ' H')∧∀x H',J.yld i H x H'→g x σ H' λσ2 H2=>tb {D with nx:=N,ct:=N,bk:=D.nx} σ2 H2)
def a4r(fp:List au)(h:bN):List (au×fD):=fp.filterMap λb=>(h.get? b).map λo=>(b,o)
def C1{h:bN}(hb:b∈fp)(e:h.get? b=el o):(b,o)∈a4r fp h:=ef.mpr ⟨b,hb,by rw[e];rfl⟩
def a9b(hp:p∈a4r fp h):p.1∈fp∧h.get? p.1=el p.2:=by
  obtain⟨b,hb,e⟩:=ef.mp hp;cases q:h.get? b with
  |none=>rw[q]at e;cases e
  |some o=>
    rw[q]at e;have e':(b,o)=p:=aK e;subst e';exact⟨hb,q⟩
def Inv.pinned(I:Inv X pins σ H s)(hf:∀b∈fp,Z8 X pins H b)(ho:∀b∈fp,∃o,s.heap.get? b=el o∧∀v,o.data≠.cell v):Inv X (pins++a4r fp s.heap) σ H s:=
  I.pins_of λp hp=>(aF.mp hp).elim (λz=>I.pin p (ax _ z)) λz=>by
    obtain⟨hb,e⟩:=a9b z;obtain⟨f0,f1,f2,_⟩:=hf p.1 hb;obtain⟨o,e',d⟩:=ho p.1 hb;rw[e]at e';cases e';exact⟨e,f0,f1,f2,d⟩
def Inv.unpinned(I:Inv X (pins++pl) σ H s):Inv X pins σ H s:=I.pins_of λp hp=>I.pin p (ax _ (aL _ hp))
def a6I(hp:nD (aV X.prog X.w) X.A X.env X.xe)(hc:X.calm=true)(hi:PI X tg iter wi)(hg:PG X tg g)(hb:PSs X body tb)
    (hs:∀x,eS iter X.env x=pure x:=by intro _;rfl):PS X (.For tg iter body [] pos) (b9X wi g tb):=by
  intro pins s σ H D I h;refine wpAny_For (thn (hi pins s σ H _ I h) λv s1 h1=>thn h1 λxJ s2 h2=>?_) hs;obtain⟨it,fp,tn,J,H2,e,I2,T,qN,f2,W,⟨m0,w0⟩,turn⟩:=h2;subst e;have nG:∀{H':Hp},(∀b∈fp,H' b=p4)→∀b∈fp,Z8 X pins H' b:=λhn b hb=>⟨hn b hb,(f2 b hb).2⟩
  refine codeAny_forLoop_any (λn s'=>∃i σ' H',Inv X pins σ' H' s'∧tn i s'.heap∧(∀b∈fp,H' b=p4)∧W i n σ' H') ?_ m0 ⟨0,σ,H2,I2,qN,λb hb=>(f2 b hb).1,w0⟩;rintro n s3 ⟨i,σ3,H3,I3,uE,vN,w3⟩;rcases turn i n σ3 H3 w3 with⟨stop,qn⟩|⟨go,N,hN,step⟩
  · refine gi hp (thn (T.done X rfl rfl rfl hc i pins s3 σ3 H3 X.xe I3 (nG vN) uE stop) λr s4 ⟨hr,I4⟩=>?_)
    subst hr;exact lX ⟨σ3,H3,I4,qn⟩
  · refine gi hp (thn (T.item X rfl rfl rfl hc i pins s3 σ3 H3 X.xe I3 (nG vN) uE go) λr s4 ⟨u,hr,h4⟩=>?_)
    subst hr;refine gi hp (thn h4 λ_ s5 ⟨x,H5,I5,r5,y5,qM,zb⟩=>?_);have zo:=I5.pinned (nG zb) (T.obj _ _ qM);refine gi hp (thn (hg _ s5 σ3 H5 x u _ zo r5 (step x H5 y5)) λ_ s6 ⟨σ6,H6,I6,q6⟩=>?_);refine gi hp (thn (hb _ s6 σ6 H6 _ I6 q6) λf s7 q7=>?_);have again:∀{σ7:St} {H7:Hp},Inv X (pins++a4r fp s5.heap) σ7 H7 s7→N σ7 H7→∃m,m<n∧∃i σ' H',Inv X pins σ' H' s7∧tn i s7.heap∧(∀b∈fp,H' b=p4)∧W i m σ' H':=λ{σ7 H7} I7 n7=>by
      obtain⟨m',hm,w7⟩:=hN σ7 H7 n7;refine⟨m',hm,i+1,σ7,H7,I7.unpinned,T.keep _ _ _ qM λb hb o e=>(I7.pin (b,o) (ax _ (ax _ (C1 hb e)))).1,λb hb=>?_,w7⟩;obtain⟨o,e,d⟩:=T.obj _ _ qM b hb;exact (I7.pin (b,o) (ax _ (ax _ (C1 hb e)))).2.1
    cases f with
    |next=>obtain⟨σ7,H7,I7,n7⟩:=q7;exact again I7 n7
    |cont=>obtain⟨σ7,H7,I7,n7⟩:=q7;exact again I7 n7
    |brk=>obtain⟨σ7,H7,I7,q7⟩:=q7;exact⟨σ7,H7,I7.unpinned,q7⟩
    |ret v=>obtain⟨x7,σ7,H7,I7,r7,q7⟩:=q7;exact⟨x7,σ7,H7,I7.unpinned,r7,q7⟩
end
abbrev R2:=V→V→Hp→VK→Prop
def OpR(X:Cx)(f:ah→ah→Sem ah)(r:R2):Prop:=
  ∀(pins:List (au×fD)) (s:ai) (σ:St) (H:Hp) (x y:V) (v u:ah) (Q:VK),Inv X pins σ H s→RelV x v→RelV y u→r x y H Q→
    aC (aV X.prog X.w) X.A (f v u) (EP X pins σ Q) X.xe s
def CallR(X:Cx)(f:ah)(r:List V→Hp→VK→Prop):Prop:=
  ∀(pins:List (au×fD)) (s:ai) (σ:St) (H:Hp) (xs:List V) (us:List ah) (Q:VK),Inv X pins σ H s→Vals xs us→r xs H Q→
    aC (aV X.prog X.w) X.A (call f us) (EP X pins σ Q) X.xe s
def b9Y(X:Cx)(r:V→Hp→(Bool→Hp→Prop)→Prop):Prop:=
  ∀(pins:List (au×fD)) (s:ai) (σ:St) (H:Hp) (x:V) (v:ah) (Q:Bool→Hp→Prop),Inv X pins σ H s→RelV x v→r x H Q→
    aC (aV X.prog X.w) X.A (uD v) (TP X pins σ Q) X.xe s
def tOp(r:R2)(ta tb:TE):TE:=λσ H Q=>ta σ H λx H1=>tb σ H1 λy H2=>r x y H2 Q
def rI(C:Int→Int→Prop)(g:Int→Int→V):R2:=λx y H Q=>∃i j,x=.int i∧y=.int j∧C i j∧Q (g i j) H
def rI0(g:Int→Int→V):R2:=λx y H Q=>∃i j,x=.int i∧y=.int j∧Q (g i j) H
section
variable {X:Cx}{a b c:Expr}{ta tb tc:TE}{pos:ff}
def b6h(ha:PE X a ta)(hb:PE X b tb){pins:List (au×fD)}{s:ai}{σ:St}{H:Hp}{R:V→V→Hp→Prop}(I:Inv X pins σ H s)
    (h:ta σ H λx H1=>tb σ H1 λy H2=>R x y H2) {Q:ah→ai→Prop} {f:ah→ah→Sem ah}
    (hf:∀v u s2 x y H2,Inv X pins σ H2 s2→RelV x v→RelV y u→R x y H2→aC (aV X.prog X.w) X.A (f v u) Q X.xe s2) :
    aC (aV X.prog X.w) X.A (cy a X.env) (λv s₁=>aC (aV X.prog X.w) X.A (cy b X.env) (λu s₂=>aC (aV X.prog X.w) X.A (f v u) Q X.xe s₂) X.xe s₁) X.xe s:=by
  refine thn (ha pins s σ H _ I h) λv s1 ⟨x,H1,I1,r1,q1⟩=>?_
  refine thn (hb pins s1 σ H1 _ I1 q1) λu s2 ⟨y,H2,I2,r2,q2⟩=>?_
  exact hf v u s2 x y H2 I2 r1 r2 q2
def b0T{op:Operator}{r:R2}(ho:OpR X (eL op) r)(ha:PE X a ta)(hb:PE X b tb):PE X (.BinOp a op b pos) (tOp r ta tb):=by
  intro pins s σ H Q I h;exact wpAny_BinOp (b6h ha hb I h λv u s2 x y H2 I2 rx ry q=>ho pins s2 σ H2 x y v u Q I2 rx ry q)
def opI{f:ah→ah→Sem ah}{C:Int→Int→Prop}{g:Int→Int→Int}
    (rule:∀(i j:Int) (t u:Tok) (s:ai) (Q:ah→ai→Prop) (E:ah→ai→Prop),C i j→Q (.int (g i j) s.toks) {s with toks:=s.toks+1}→aC (aV X.prog X.w) X.A (f (.int i t) (.int j u)) Q E s) :
    OpR X f (rI C λi j=>.int (g i j)):=by
  intro pins s σ H x y v u Q I rx ry h;obtain⟨i,j,rfl,rfl,hc,q⟩:=h;obtain⟨t,rfl⟩:=rx;obtain⟨t',rfl⟩:=ry;exact rule i j t t' s _ _ hc ⟨.int (g i j),H,I.tok _,⟨_,rfl⟩,q⟩
def b8o{f:ah→ah→Sem ah}{g:Int→Int→Int}
    (rule:∀(i j:Int) (t u:Tok) (s:ai) (Q:ah→ai→Prop) (E:ah→ai→Prop),Q (.int (g i j) s.toks) {s with toks:=s.toks+1}→aC (aV X.prog X.w) X.A (f (.int i t) (.int j u)) Q E s) :
    OpR X f (rI0 λi j=>.int (g i j)):=by
  intro pins s σ H x y v u Q I rx ry h;obtain⟨i,j,rfl,rfl,q⟩:=h;obtain⟨t,rfl⟩:=rx;obtain⟨t',rfl⟩:=ry;exact rule i j t t' s _ _ ⟨.int (g i j),H,I.tok _,⟨_,rfl⟩,q⟩
def b6i{f:ah→ah→Sem ah}{g:Int→Int→Bool}
    (rule:∀(i j:Int) (t u:Tok) (s:ai) (Q:ah→ai→Prop) (E:ah→ai→Prop),Q (.bool (g i j)) s→aC (aV X.prog X.w) X.A (f (.int i t) (.int j u)) Q E s) :
    OpR X f (rI0 λi j=>.bl (g i j)):=by
  intro pins s σ H x y v u Q I rx ry h;obtain⟨i,j,rfl,rfl,q⟩:=h;obtain⟨t,rfl⟩:=rx;obtain⟨t',rfl⟩:=ry;exact rule i j t t' s _ _ ⟨.bl (g i j),H,I,rfl,q⟩
def b9Z(i j:Int):Prop:=0<j∧j<1073741824
def c0a(i j:Int):Prop:=0≤j∧j≤1000000∧i.natAbs<2^64
def CMul(i j:Int):Prop:=(-(2^64)<i∧i<2^64)∨(-(2^64)<j∧j<2^64)
def CMul.ok{i j:Int}(h:CMul i j):IntMulOk i j:=by
  rcases h with⟨h1,h2⟩|⟨h1,h2⟩
  · exact .of_left (intBits_le_64 h1 h2)
  · exact .of_right (intBits_le_64 h1 h2)
def b6j:OpR X (eL .Add) (rI0 λi j=>.int (i+j)):=b8o λ_ _ _ _ _ _ _ q=>add_int q
def b6k:OpR X (eL .Sub) (rI0 λi j=>.int (i-j)):=b8o λ_ _ _ _ _ _ _ q=>sub_int q
def b6l:OpR X (eL .Mult) (rI CMul λi j=>.int (i*j)):=opI λ_ _ _ _ _ _ _ hc q=>mul_int q hc.ok
def b3A:OpR X (eL .FloorDiv) (rI b9Z λi j=>.int (i / j)):=opI λi j _ _ _ _ _ hc q=>by
  have h1:(0:Int)<j:=hc.1;have h2:j<1073741824:=hc.2;exact floordiv_int (by omega) (by rw[Int.fdiv_eq_ediv_of_nonneg i (by omega)];exact q) (.inl (PyProof.noPylong_small (by omega)))
def b6m:OpR X (eL .Mod) (rI (λ_ j=>0<j) λi j=>.int (i % j)):=opI λi j _ _ _ _ _ hc q=>by
  have h1:(0:Int)<j:=hc;exact mod_int' (by omega) (by rw[Int.fmod_eq_emod_of_nonneg i (by omega)];exact q)
def b6n:OpR X (eL .Pow) (rI c0a λi j=>.int (i^j.toNat)):=opI λ_ _ _ _ _ _ _ hc q=>pow_int_small hc.1 hc.2.1 hc.2.2 q
end
section
variable {X:Cx}{a b c:Expr}{ta tb tc:TE}{pos:ff}
def b0U(I:Inv X pins σ H s)(q:Q (.bl k) H)(e:k=k'):EP X pins σ Q (.bool k') s:=by
  subst e;exact⟨.bl k,H,I,rfl,q⟩
def b8p:OpR X (bS .Lt) (rI0 λi j=>.bl (decide (i<j))):=b6i λ_ _ _ _ _ _ _ q=>lt_int q
def b8q:OpR X (bS .LtE) (rI0 λi j=>.bl (decide (i≤j))):=b6i λ_ _ _ _ _ _ _ q=>le_int q
def b8r:OpR X (bS .Gt) (rI0 λi j=>.bl (decide (j<i))):=b6i λ_ _ _ _ _ _ _ q=>gt_int q
def b6o:OpR X (bS .Is) (λx y H Q=>y=.non∧Q (.bl (decide (x=.non))) H):=by
  intro pins s σ H x y v u Q I rx ry h;obtain⟨rfl,q⟩:=h;cases ry
  refine is_none_gen (b0U I q ?_);cases x<;>first
    | (cases rx;rfl)
    | (obtain⟨t,rfl⟩:=rx;rfl)
def b3B:OpR X (bS .IsNot) (λx y H Q=>y=.non∧Q (.bl (!decide (x=.non))) H):=by
  intro pins s σ H x y v u Q I rx ry h;obtain⟨rfl,q⟩:=h;cases ry
  refine isnot_none_gen (b0U I q ?_);cases x<;>first
    | (cases rx;rfl)
    | (obtain⟨t,rfl⟩:=rx;rfl)
def Y4(b:Expr)(h:op≠.In:=by decide)(h2:op≠.NotIn:=by decide):eE op b=false:=by
  have e1:(op==CmpOp.In)=false:=by cases op<;>first|rfl|exact absurd rfl h
  have e2:(op==CmpOp.NotIn)=false:=by cases op<;>first|rfl|exact absurd rfl h2
  cases b<;>simp[eE,e1,e2]
def a8c{op:CmpOp}{r:R2}(ho:OpR X (bS op) r)(ha:PE X a ta)(hb:PE X b tb)(hm:eE op b=false):PE X (.Compare a [op] [b] pos) (tOp r ta tb):=by
  intro pins s σ H Q I h;exact wpAny_Compare1 (b6h ha hb I h λv u s2 x y H2 I2 rx ry q=>ho pins s2 σ H2 x y v u Q I2 rx ry q) hm
def b5q(t:TE):TT:=λσ H Q=>t σ H λx H'=>∃k,x=.bl k∧Q k H'
def Z9(ho:OpR X (bS op) r)(ha:PE X a ta)(hb:PE X b tb)(hm:eE op b=false):PT X (.Compare a [op] [b] pos) (b5q (tOp r ta tb)):=by
  intro pins s σ H Q I h;refine wpAny_isTrue_Compare1 (thn (ha pins s σ H _ I h) λv s1 ⟨x,H1,I1,r1,q1⟩=>thn (hb pins s1 σ H1 _ I1 q1) λu s2 ⟨y,H2,I2,r2,q2⟩=>
    thn (ho pins s2 σ H2 x y v u _ I2 r1 r2 q2) λc s3 ⟨z,H3,I3,r3,k,e,q3⟩=>?_) hm
  subst e;cases r3
  exact eR ⟨H3,I3,q3⟩
def b6p(r r':R2)(ta tb tc:TE):TE:=λσ H Q=>ta σ H λx H1=>tb σ H1 λy H2=>r x y H2 λz H3=>∃k,z=.bl k∧
  (if k=true then tc σ H3 λw' H4=>r' y w' H4 Q else Q (.bl false) H3)
def b0V(ho:OpR X (bS op) r)(nJ:OpR X (bS tY) r')(ha:PE X a ta)(hb:PE X b tb)(hc:PE X c tc)
    (hm:lastMarks [op,tY] [b,c]=false:=by with_unfolding_all rfl):PE X (.Compare a [op,tY] [b,c] pos) (b6p r r' ta tb tc):=by
  intro pins s σ H Q I h;refine Compare_chain (thn (ha pins s σ H _ I h) λv s1 ⟨x,H1,I1,r1,q1⟩=>chain_link (thn (hb pins s1 σ H1 _ I1 q1) λu s2 ⟨y,H2,I2,r2,q2⟩=>
    thn (ho pins s2 σ H2 x y v u _ I2 r1 r2 q2) λd s3 ⟨z,H3,I3,r3,k,e,q3⟩=>?_)) hm
  subst e;cases r3
  refine eR ?_;cases k with
  |false=>exact ite_ff ⟨.bl false,H3,I3,rfl,q3⟩
  |true=>exact ite_tt (chain_last (thn (hc pins s3 σ H3 _ I3 q3) λw' s4 ⟨z',H4,I4,r4,q4⟩=>nJ pins s4 σ H4 y z' u w' Q I4 r2 r4 q4))
def b6q(K:ag)(x:V)(H:Hp)(k:Bool):Prop:=
  match x with
  |.non=>k=false
  |.bl b=>k=b
  |.int i=>k=(i !=0)
  |.str y=>y.length≤aS∧k=((y.length:Int)!=0)
  |.byt y=>y.size≤aS∧k=((y.size:Int)!=0)
  |.ref p=>(∃xs,SqL K H p xs∧k=!xs.isEmpty)∨(∃xs,SqT K H p xs∧k=!xs.isEmpty)∨∃kvs,H p=el (.dK kvs)∧k=!kvs.isEmpty
  |_=>False
def a6J{κ:Type}{kvs:List (κ×V)}{vs:List (κ×ah)}(r:KV kvs vs):(!vs.isEmpty)=!kvs.isEmpty:=by
  cases r<;>rfl
def a1Y{xs:List V}{cJ:List ah}(r:Vals xs cJ):(!cJ.toArray.isEmpty)=!xs.isEmpty:=by
  cases r<;>simp
def a1Z:(aS:Nat)<2^63:=by rw[cQ];decide
def b6r:b9Y X (λx H Q=>∃k,b6q X.K x H k∧Q k H):=by
  intro pins s σ H x v Q I rx h;obtain⟨k,e,q⟩:=h;have hl:=a1Z;have hs:aS=16777216:=cQ;cases x with
  |non=>
    cases rx
    have e':k=false:=e;subst e';exact truthy_none ⟨H,I,q⟩
  |bl b=>
    cases rx
    have e':k=b:=e;subst e';exact eR ⟨H,I,q⟩
  |int i=>
    obtain⟨t,rfl⟩:=rx;have e':k=(i !=0):=e;subst e';exact PySem.P.truthy_int ⟨H,I,q⟩
  |str y=>
    obtain⟨t,rfl⟩:=rx;obtain⟨hy,e'⟩:y.length≤aS∧k=((y.length:Int)!=0):=e;subst e';exact PySem.P.truthy_str (by omega) ⟨H,I.tok _,q⟩
  |byt y=>
    obtain⟨t,rfl⟩:=rx;obtain⟨hy,e'⟩:y.size≤aS∧k=((y.size:Int)!=0):=e;subst e';exact PySem.W.truthy_bytes (by omega) ⟨H,I.tok _,q⟩
  |ref p=>
    cases rx
    have e':(∃xs,SqL X.K H p xs∧k=!xs.isEmpty)∨(∃xs,SqT X.K H p xs∧k=!xs.isEmpty)∨∃kvs,H p=el (.dK kvs)∧k=!kvs.isEmpty:=e;rcases e' with⟨xs,hx,e'⟩|⟨xs,hx,e'⟩|⟨kvs,hx,e'⟩
    · subst e'
      obtain⟨cJ,r,pl,hz⟩:=I.list hx;have hlen:=r.length;exact wpAny_truthy_list pl.isList (by simp only[bb];omega) ⟨H,I.tok _,by rw[a1Y r];exact q⟩
    · subst e'
      obtain⟨cJ,r,pl,hz⟩:=I.tuple hx;have hlen:=r.length;exact truthy_tuple pl (by simp only[bb];omega) ⟨H,I.tok _,by rw[a1Y r];exact q⟩
    · subst e'
      obtain⟨hz,hS,vs,r,m⟩:kvs.length≤aS∧(p==cR)=false∧∃vs,KV kvs vs∧s.heap.DictOf (a4m X.prog X.w) p vs:=I.hok p _ hx;have hlen:kvs.length=vs.length:=cM r;exact wpAny_truthy_dict hS m (by omega) ⟨H,I.tok _,by rw[a6J r];exact q⟩
  |_=>exact (show False from e).elim
def b0W(ha:PE X a ta)(he:∀whole,qR a X.env whole=(do let v ←whole;standAt a.pos;nt [v] (uD v))) :
    PT X a (λσ H Q=>ta σ H λx H'=>∃k,b6q X.K x H' k∧Q k H'):=by
  intro pins s σ H Q I h;exact isTrue_plain (thn (ha pins s σ H _ I h) λv s1 ⟨x,H1,I1,r1,q1⟩=>b6r pins s1 σ H1 x v Q I1 r1 q1) (he _)
def vals1(r:Vals [x] us):∃u,us=[u]∧RelV x u:=by
  cases r with
  |cons r1 r2=>cases r2;exact⟨_,rfl,r1⟩
def vals2(r:Vals [x,y] us):∃u w',us=[u,w']∧RelV x u∧RelV y w':=by
  cases r with
  |cons r1 r2=>
    cases r2 with
    |cons r3 r4=>cases r4;exact⟨_,_,rfl,r1,r3⟩
end
structure ObjM (h:bN) (x dx C:au) (mA:bC→Option ah):Prop where
  obj:h.get? x=el (oK C dx)
  ns:h.Ns1 dx mA
  ne:dx≠x
def a9c{h:bN}(n:h.Ns1 dx mA):∃od,h.get? dx=el od∧∀name,pY name od=el (mA name):=by
  obtain⟨o,es,ep,ho,hd,hk,_,hm⟩:=n;refine⟨o,ho,λname=>?_⟩;have e:=hm name;unfold nsFind findBy at e;rw[←Array.find?_toList]at e;unfold pY;rw[hd]
  dsimp only
  split
  · rename_i y q
    rw[q]at e;exact fC el e
  · rename_i q
    rw[q]at e;have a:es.toList.any (·.refKey)=false:=by
      rw[cB];intro y hy;obtain⟨z,t,jg⟩:=hk y (dM.mp hy);simp[eA.refKey,jg]
    have a':¬ es.toList.any (·.refKey)=true:=by rw[a];exact aQ
    rw[aI a'];exact fC el e
def ObjM.look(I:ObjM h x dx C mA):∃od,PySem.W.InstAt h x (oK C dx) C (el od)∧∀name,pY name od=el (mA name):=
  let⟨od,ho,hl⟩:=a9c I.ns
  ⟨od,⟨I.obj,rfl,rfl,ho⟩,hl⟩
section
variable {P:br}{w:bL}{H H':Hp}{h h':bN}{a C dx:au}{fs jZ:List (bC×V)}
def b3C(hok:HOk P w H h)(e:H a=el (.ins C dx fs)):∃mA,ObjM h a dx C mA∧(∀f,b5R (fs.lookup f) (mA f))∧PySem.Within mA (fs.map (·.1))∧fs.length≤1000∧H dx=el (.own a):=by
  obtain⟨d,z,ne,ob,mA,n,r,q⟩:=(show ObjOk P w H h a (.ins C dx fs) from hok a _ e);exact⟨mA,⟨ob,n,ne⟩,r,q,z,d⟩
end
structure Cls (K:ag) (C:au):Prop where
  pg:Fb K C bC.empty=true
  hd:PySem.W.hasDictIn K C=true
  po:PySem.W.plainOver K C=true
  sa:jy K (.ref C) "__setattr__"=el (el (.builtin "object.__setattr__"))
def Cls.get{K:ag}{C:au}(c:Cls K C)(f:bC):Fb K C f=true:=c.pg
structure Con (K:ag) (C:au) (f:bC) (v:V) (u:ah):Prop where
  at_:jy K (.ref C) f=el (el u)
  rel:RelV v u
  get:Bp K u "__get__"=el p4
  cp:PySem.W.copiedNames.contains f=false
structure Meth (K:ag) (C:au) (m:bC) (f:au):Prop where
  at_:jy K (.ref C) m=el (el (.ref f))
  fn:PySem.W.isFn K (.ref f)=true
  kp:fM K (.ref f)=true
section
variable {X:Cx}{pins:List (au×fD)}{σ:St}{H:Hp}{s:ai}{A:bD}{E:ah→ai→Prop}{Q:ah→ai→Prop}{c:ah}{b:Bool}
inductive TyOf (K:ag) (H:Hp):V→ah→Prop where
  |non:TyOf K H .non (.type "NoneType")
  |bl (x:Bool):TyOf K H (.bl x) (.type "bool")
  |int (i:Int):TyOf K H (.int i) (.type "int")
  |str (x:bC):TyOf K H (.str x) (.type "str")
  |flt (x:UInt64):TyOf K H (.flt x) (.type "float")
  |lst {a:au} {xs:List V} (e:H a=el (.lst xs)):TyOf K H (.ref a) (.type "list")
  |frz {a:au} {o:fD} {xs:List V} (e:H a=el (.frz o (.lst xs))):TyOf K H (.ref a) (.type "list")
  |tup {a:au} {xs:List V} (e:H a=el (.tup xs)):TyOf K H (.ref a) (.type "tuple")
  |dK {a:au} {kvs:List (Key×V)} (e:H a=el (.dK kvs)):TyOf K H (.ref a) (.type "dict")
  |dT {a:au} {kvs:List (List Key×V)} (e:H a=el (.dT kvs)):TyOf K H (.ref a) (.type "dict")
  |ins {a C dx:au} {fs:List (bC×V)} (e:H a=el (.ins C dx fs)) (cl:Cls K C) (ha:jy K (.ref C) "__class__"=el (el (.builtin "object.__class__")))
      (hn:Bp K (.builtin "object.__class__") "__get__"=el (el (.builtin "getset_descriptor.__get__"))) (zZ:PySem.W.takesIn K (.builtin "object.__class__")=el true)
      (hm:PySem.W.mroIn K C (.type "object")=el true):TyOf K H (.ref a) (.ref C)
def a9d(I:Inv X pins σ H s)(rx:RelV x u)(ty:TyOf X.K H x t)(e:eY X.K t c=el b)(h:∀tk,Q (.bool b) {s with toks:=tk}) :
    aC (aV X.prog X.w) A (call (.builtin "isinstance") [u,c]) Q E s:=by
  cases ty with
  |non=>cases (show u=bz from rx);exact cO PySem.W.kitx_none I.kIn jw e (λz=>nomatch z) h
  |bl y=>cases (show u=ji y from rx);exact cO PySem.W.kitx_bool I.kIn jw e (λz=>nomatch z) h
  |int i=>obtain⟨t,q⟩:=(show ∃t,u=gA i t from rx);cases q;exact cO PySem.W.kitx_int I.kIn jw e (λz=>nomatch z) h
  |str y=>obtain⟨t,q⟩:=(show ∃t,u=rl y t from rx);cases q;exact cO PySem.W.kitx_str I.kIn jw e (λz=>nomatch z) h
  |flt y=>obtain⟨t,q⟩:=(show ∃t,u=ah.float y t from rx);cases q;exact cO PySem.W.kitx_float I.kIn jw e (λz=>nomatch z) h
  |@lst a xs ea=>
    cases (show u=aW a from rx)
    obtain⟨_,_,n,_,h1⟩:=(show ObjOk X.prog X.w H s.heap a (.lst xs) from I.hok a _ ea);exact cO m_ I.kIn ⟨_,h1,rfl⟩ e (λz=>nomatch z) h
  |@frz a ob xs ea=>
    cases (show u=aW a from rx)
    obtain⟨_,_,_,n,_,h1⟩:=(show ObjOk X.prog X.w H s.heap a (.frz ob (.lst xs)) from I.hok a _ ea);exact cO m_ I.kIn ⟨_,h1,rfl⟩ e (λz=>nomatch z) h
  |@tup a xs ea=>
    cases (show u=aW a from rx)
    obtain⟨_,_,_,p⟩:=(show ObjOk X.prog X.w H s.heap a (.tup xs) from I.hok a _ ea);obtain⟨o,h1,h2,_⟩:=p;exact cO zj I.kIn ⟨o,h1,h2⟩ e (λz=>nomatch z) h
  |@dK a kvs ea=>
    cases (show u=aW a from rx)
    obtain⟨_,_,vs,_,p⟩:=(show ObjOk X.prog X.w H s.heap a (.dK kvs) from I.hok a _ ea);obtain⟨o,es,ep,h1,h2,_⟩:=p;exact cO nc I.kIn ⟨o,h1,h2.1⟩ e (λz=>nomatch z) h
  |@dT a kvs ea=>
    cases (show u=aW a from rx)
    obtain⟨_,_,xs,_,o,es,ep,h1,h2,_⟩:=(show ObjOk X.prog X.w H s.heap a (.dT kvs) from I.hok a _ ea);exact cO nc I.kIn ⟨o,h1,h2.1⟩ e (λz=>nomatch z) h
  |@ins a C dx fs ea cl ha hn zZ hm=>
    cases (show u=aW a from rx)
    obtain⟨mA,O,_⟩:=b3C I.hok ea;obtain⟨od,J,_⟩:=O.look;exact cO (PySem.W.kitx_own (cl.get _) cl.hd ha hn zZ hm) I.kIn J e (λz=>nomatch z) h
end
structure Room (k:Nat) (A:bD):Prop where
  hd:A.handled=p4
  dp:A.depth+3*k+5<recursionLimit
  un:A.units+16*k+200<cV
def Room.mono(r:Room k A)(h:j≤k):Room j A:=⟨r.hd,by have:=r.dp;omega,by have:=r.un;omega⟩
theorem Room.deeper(r:Room (k+1) A)(env:n_):Room k (A.deeper env):=
  ⟨r.hd,by have:=r.dp;show A.depth+1+3*k+5<_;omega,by have:=r.un;show A.units+3+16*k+200<_;omega⟩
theorem Room.depth(r:Room k A):A.depth<recursionLimit:=by have:=r.dp;omega
theorem Room.units(r:Room k A):A.units+64<cV:=by have:=r.un;omega
def c0b:TA:=λ_ H Q=>Q [] H
def b8s(ta:TE)(tr:TA):TA:=λσ H Q=>ta σ H λx H1=>tr σ H1 λxs H2=>Q (x::xs) H2
section
variable {X:Cx}{e:Expr}{es:List Expr}{te:TE}{t:TA}{pos:ff}
def p0:PA X [] c0b:=λ_ _ _ _ H Q I h=>Calls.spliced_nil ⟨[],H,I,.nil,h⟩
def l5(ha:PE X e te)(hr:PA X es t)(hs:aw (e::es) X.env=(false,cy e X.env)::aw es X.env:=by rfl):PA X (e::es) (b8s te t):=by
  intro pos pins s σ H Q I h;rw[hs];show aC _ _ (spliced ((false,cy e X.env)::cx pos (aw es X.env))) _ _ s;refine Calls.spliced_cons (thn (ha pins s σ H _ I h) λu s1 ⟨x,H1,I1,r1,q1⟩=>?_);exact thn (hr pos pins s1 σ H1 _ I1 q1) λus s2 ⟨xs,H2,I2,r2,q2⟩=>⟨x::xs,H2,I2,.cons r1 r2,q2⟩
def c0c(t:TA):TE:=λσ H Q=>t σ H λxs H1=>xs.length≤aS∧∀p,H1 p=p4→Q (.ref p) (upd H1 p (.tup xs))
def c0d(t:TA):TE:=λσ H Q=>t σ H λxs H1=>xs.length≤aS∧∀p,H1 p=p4→Q (.ref p) (upd H1 p (.lst xs))
def b0X{x1}(h:PA X es t):PE X (.Tuple es x1 pos) (c0c t):=by
  intro pins s σ H Q I hq;refine wpAny_Tuple_spliced (thn (h pos pins s σ H _ I hq) λus s1 ⟨xs,H1,I1,r,z,q⟩=>⟨by rw[←r.length];exact z,?_⟩);have hf:H1 s1.heap.objs.size=p4:=I1.hok.fresh (aD _);refine⟨.ref s1.heap.objs.size,upd H1 s1.heap.objs.size (.tup xs),I1.laid (t':=s1.toks) (λb u e=>af _ e) (aD _) ?_,rfl,q _ hf⟩;exact⟨z,us,r,⟨_,aE _ rfl,rfl,_,rfl⟩⟩
def b6s(h:PA X es t):PE X (.List es pos) (c0d t):=by
  intro pins s σ H Q I hq;refine wpAny_List_spliced (thn (h pos pins s σ H _ I hq) λus s1 ⟨xs,H1,I1,r,z,q⟩=>⟨by rw[←r.length];exact z,?_⟩);have hf:H1 s1.heap.objs.size=p4:=I1.hok.fresh (aD _);refine⟨.ref s1.heap.objs.size,upd H1 s1.heap.objs.size (.lst xs),I1.laid (t':=s1.toks) (λb u e=>af _ e) (aD _) ?_,rfl,q _ hf⟩;exact⟨z,us,0,r,aE _ rfl⟩
end
abbrev Sp:=List V→Hp→VK→XK→Prop
abbrev CXT:=List n_→Hp→ai→XK→ah→ai→Prop
structure Env0 (P:br) (w:bL) (K:ag) (mg:bC→Option ah) (base:bN) (A:bD) (outer:List n_) (s:ai) (H:Hp):Prop where
  frames:A.frames=el outer
  mod:Mod K mg base
  bs:∀b o,base.get? b=el o→s.heap.get? b=el o∧H b=p4
  bsz:base.objs.size≤s.heap.objs.size
  funs:s.heap.FunFrames base outer
  frf:∀b∈frs outer,H b=p4
  hok:HOk P w H s.heap
  bare:og s.gens
  tabs:TabsIn K H
def CE(outer:List n_)(P:br)(w:bL)(H:Hp)(s:ai)(Q:VK)(u:ah)(s':ai):Prop:=
  ∃v H',s'.os=s.os∧og s'.gens∧Un (frs outer) [] H H' s.heap s'.heap∧HOk P w H' s'.heap∧RelV v u∧Q v H'
def CR(CX:CXT)(outer:List n_)(P:br)(w:bL)(H:Hp)(s:ai)(Q:VK)(E:XK)(r:vY)(s':ai):Prop:=
  match r with
  |.ok (.ret u)=>CE outer P w H s Q u s'
  |.ok _=>False
  |.error e=>CX outer H s E e s'
structure FnOk (P:br) (w:bL) (K:ag) (mg:bC→Option ah) (base:bN) (CX:CXT) (k:Nat) (f:au) (fd:dC) (ps:List bC) (sp:Sp):Prop where
  len:∀vs H Q E,sp vs H Q E→vs.length=ps.length
  run:∀(A:bD) (outer:List n_) (s:ai) (H:Hp) (args:Args) (us:List ah) (vs:List V) (Q:VK) (E:XK),Room k A→Env0 P w K mg base A outer s H→nF s fd args (ps.zip us)→Vals vs us→sp vs H Q E→
    gF (aV P w) A (.call (.ref f) args) (CR CX outer P w H s Q E) s
theorem FnOk.mono{P:br}{w:bL}{K:ag}{mg:bC→Option ah}{base:bN}{CX:CXT}{j k:Nat}{f:au}{fd:dC}{ps:List bC}{sp:Sp}(F:FnOk P w K mg base CX j f fd ps sp)(h:j≤k) :
    FnOk P w K mg base CX k f fd ps sp:=⟨F.len,λA outer s H args us vs Q E hr=>F.run A outer s H args us vs Q E (hr.mono h)⟩
section
variable {X:Cx}{pins:List (au×fD)}{σ:St}{H:Hp}{s s':ai}
def Inv.env0(I:Inv X pins σ H s):Env0 X.prog X.w X.K X.mg X.base X.A X.stack s H:=
  ⟨I.ok.frames,I.ok.mod,I.bs,cw I.ok.bsz I.sz,I.stack,I.stkFree,I.hok,I.bare,I.tabs⟩
def Inv.after(I:Inv X pins σ H s)(h:CE X.stack X.prog X.w H s Q u s'):EP X pins σ Q u s':=by
  obtain⟨v,H',os,bare,un,hok,r,q⟩:=h;obtain⟨hh,g,d,t,xy⟩:=s';obtain rfl:xy=s.os:=os;exact⟨v,H',I.call (h':=hh) (g':=g) (d':=d) (t':=t) (ch:=[]) un hok bare (λb z=>absurd z (by simp)),r,q⟩
end
def b5r(sp:Sp)(sv:List V)(E:XK)(t:TA):TE:=λσ H Q=>t σ H λvs H1=>sp (vs++sv) H1 Q E
def Binds(K:ag)(fd:dC)(ps:List bC)(ds:List ah):Prop:=
  ∀(s:ai) (us:List ah),K.In s.heap→(us++ds).length=ps.length→nF s fd ⟨us,[]⟩ (ps.zip (us++ds))
def Binds.all{K:ag}{fd:dC}{ps:List bC}(h:∀us:List ah,us.length=ps.length→pW fd ⟨us,[]⟩=pure (ps.zip us)):Binds K fd ps []:=λs us _ hl=>by
  rw[bE]at hl ⊢;exact .of_eq (h us hl)
def a6K(CX:CXT)(X:Cx)(E:XK):Prop:=∀(pins:List (au×fD)) (σ:St) (H:Hp) (s:ai) (e:ah) (s':ai),Inv X pins σ H s→CX X.stack H s E e s'→X.xe e s'
section
variable {X:Cx}{CX:CXT}{k:Nat}{f C:au}{fd:dC}{ps:List bC}{sp:Sp}{sv:List V}{ds:List ah}{E:XK}{x m:bC}{p pos apos:ff}{e o:Expr}{es:List Expr}{ta:TE}{t:TA}
def b6t(F:FnOk X.prog X.w X.K X.mg X.base CX k f fd ps sp)(hr:Room k X.A)(hb:Binds X.K fd ps ds)(hd:Vals sv ds)(hx:a6K CX X E)
    (I:Inv X pins σ H s) (r:Vals vs us) (h:sp (vs++sv) H Q E):aC (aV X.prog X.w) X.A (call (.ref f) us) (EP X pins σ Q) X.xe s:=by
  have r2:Vals (vs++sv) (us++ds):=r.append hd;have hl:(us++ds).length=ps.length:=by rw[←r2.length];exact F.len _ _ _ _ h
  refine uB (fK (F.run X.A X.stack s H ⟨us,[]⟩ (us++ds) (vs++sv) Q E hr I.env0 (hb s us I.kIn hl) r2 h) λr s' hq=>?_);cases r with
  |error e=>exact hx pins σ H s e s' I hq
  |ok fl=>
    cases fl with
    |ret u=>exact I.after hq
    |next=>exact cK hq
    |brk=>exact cK hq
    |cont=>exact cK hq
def b3D(F:FnOk X.prog X.w X.K X.mg X.base CX k f fd ps sp)(hr:Room k X.A)(hg:Gl X x)(hm:X.mg x=el (.ref f))(hk:fM X.K (.ref f)=true)(hb:Binds X.K fd ps ds)(hd:Vals sv ds)(hx:a6K CX X E)
    (ha:PA X (e::es) t) (kM:(x==("__debug__":bC))=false:=by decide) (he:aw (e::es) X.env=(false,cy e X.env)::aw es X.env:=by rfl) (fJ:(cx pos (aw es X.env)).any (·.1)=false:=by rfl) :
    PE X (.Call (.Name x p) (e::es) [] pos) (b5r sp sv E t):=by
  intro pins s σ H Q I h;refine fA (a4p I hg hm ?_ kM);refine zk (h₀:=X.base) I.ok.mod.kin hk (thn (ha pos pins s σ H _ I h) λus s1 ⟨vs,H1,I1,r,q⟩=>⟨I1.kIn,?_⟩) he fJ;exact b6t F hr hb hd hx I1 r q
structure Mk (K:ag) (C f:au):Prop where
  makes:PySem.W.makesIn K C=true
  init:jy K (.ref C) "__init__"=el (el (.ref f))
  fn:PySem.W.isFn K (.ref f)=true
  kp:fM K (.ref C)=true
end
section
variable {X:Cx}{CX:CXT}{k:Nat}{f C:au}{fd:dC}{ps ks:List bC}{sp:Sp}{E:XK}{x m:bC}{p pos apos uO:ff}{e o:Expr}{es:List Expr}{FA:List hJ}{te ta:TE}{t tk:TA}{nm:Option bC}
structure KBinds (K:ag) (fd:dC) (ps ks:List bC) (g:List ah→List ah→List ah) (gV:List V→List V→List V):Prop where
  to:∀(s:ai) (us ws:List ah),K.In s.heap→(g us ws).length=ps.length→nF s fd ⟨us,ks.zip ws⟩ (ps.zip (g us ws))
  rel:∀{vs:List V} {us:List ah} {zs:List V} {ws:List ah},Vals vs us→Vals zs ws→Vals (gV vs zs) (g us ws)
variable {g:List ah→List ah→List ah}{gV:List V→List V→List V}
end
structure FnScope (N P:List bC) (sc:fZ):Prop where
  kind:sc.kind=.function
  co:sc.isCoroutine=false
  gen:sc.isGenerator=false
  nd:N.Nodup
  pre:N.take P.length=P
  par:∀x∈P,sc.names.lookup x=el .local∨sc.names.lookup x=el .cell
  nofree:∀y∈sc.names,y.2≠.free
theorem a3s{kindOf:bC→Option iP}{x:bC}:∀{binds:List (bC×ah)} {m:bC→Option ah},(∀v,(x,v)∉binds)→Bj kindOf binds m x=m x
  |[],_,_=>rfl
  | (n,v)::r,m,h=>by
    unfold Bj;rw[a3s λw hw=>h w (aq _ hw)]
    split
    · have:x≠n:=by rintro rfl;exact h v aj
      simp[this]
    · rfl
theorem a3t{kindOf:bC→Option iP}{x:bC}:∀{binds:List (bC×ah)} {m:bC→Option ah},(∀v,(x,v)∉binds)→Bl kindOf binds m x=m x
  |[],_,_=>rfl
  | (n,v)::r,m,h=>by
    unfold Bl;rw[a3t λw hw=>h w (aq _ hw)]
    split
    · rfl
    · have:x≠n:=by rintro rfl;exact h v aj
      simp[this]
theorem a3u{kindOf:bC→Option iP}{x:bC}{v:ah}:∀{P:List bC} {vs:List ah} {i:Nat} {m:bC→Option ah},P.Nodup→P[i]?=el x→vs[i]?=el v→kindOf x=el .local→
    Bj kindOf (P.zip vs) m x=el v
  |[],_,_,_,_,h,_,_=>by simp at h
  |_::_,[],_,_,_,_,h,_=>by simp at h
  |p::P,w::vs,0,m,nd,h1,h2,hk=>by
    simp at h1 h2;subst h1;subst h2
    show Bj kindOf ((p,w)::P.zip vs) m p=_;unfold Bj;rw[a3s λv hv=>(bt.mp nd).1 (gU hv).1,aB hk];simp
  |p::P,w::vs,i+1,m,nd,h1,h2,hk=>by
    show Bj kindOf ((p,w)::P.zip vs) m x=_;unfold Bj;exact a3u (i:=i) (bt.mp nd).2 (by simpa using h1) (by simpa using h2) hk
theorem a3v{kindOf:bC→Option iP}{x:bC}{v:ah}:∀{P:List bC} {vs:List ah} {i:Nat} {m:bC→Option ah},P.Nodup→P[i]?=el x→vs[i]?=el v→kindOf x≠el .local→
    Bl kindOf (P.zip vs) m x=el v
  |[],_,_,_,_,h,_,_=>by simp at h
  |_::_,[],_,_,_,_,h,_=>by simp at h
  |p::P,w::vs,0,m,nd,h1,h2,hk=>by
    simp at h1 h2;subst h1;subst h2
    show Bl kindOf ((p,w)::P.zip vs) m p=_;unfold Bl;rw[a3t λv hv=>(bt.mp nd).1 (gU hv).1,aI hk];simp
  |p::P,w::vs,i+1,m,nd,h1,h2,hk=>by
    show Bl kindOf ((p,w)::P.zip vs) m x=_;unfold Bl;exact a3v (i:=i) (bt.mp nd).2 (by simpa using h1) (by simpa using h2) hk
def start(N:List bC)(vs:List V):St:=vs.map el++aO (N.length-vs.length) p4
def a0a(CX:CXT)(P:br)(w:bL)(K:ag)(mg:bC→Option ah)(base:bN)(N:List bC)(qual:bC)(scope:fZ)(f:au)(cd:ah)(A:bD)(outer:List n_)(s:ai)(H:Hp)(E:XK):Cx where
  prog:=P
  w:=w
  K:=K
  mg:=mg
  base:=base
  A:=A.deeper (iY qual scope s.heap.objs.size f cd)
  N:=N
  s₀:=s
  H₀:=H
  env:=iY qual scope s.heap.objs.size f cd
  outer:=outer
  stack:=iY qual scope s.heap.objs.size f cd::outer
  ex:=[]
  calm:=true
  fn:=λ_=>true
  pn:=[]
  xe:=λe s'=>aC (aV P w) (A.deeper (iY qual scope s.heap.objs.size f cd)) (leaving (iY qual scope s.heap.objs.size f cd) e) (λ_ xu=>CX outer H s E e xu) (λe' xu=>CX outer H s E e' xu) s'
def a5p{sc:fZ}(h:sc.names.lookup x=el .cell):∃c,(cellsFrom n sc.names []).lookup x=el c:=by
  have q:=tN sc.names n [] (.inl h);exact gQ.mp q
def a9e{CX:CXT}{P:br}{w:bL}{K:ag}{mg:bC→Option ah}{base:bN}{N ps:List bC}{qual:bC}{scope:fZ}{f:au}{cd:ah}{A:bD}{outer:List n_}{s s1:ai}{H:Hp}{E:XK}{us:List ah}{vs:List V}
    (S:FnScope N ps scope) (hd:A.handled=p4) (e0:Env0 P w K mg base A outer s H) (hl:vs.length=ps.length) (r:Vals vs us)
    (x:InCallC s s.heap.objs.size (Bj (iY qual scope s.heap.objs.size f cd).kindOf (ps.zip us) λ_=>p4) (cellsFrom (s.heap.objs.size+1) scope.names []) (Bl (iY qual scope s.heap.objs.size f cd).kindOf (ps.zip us) λ_=>p4) s1) :
    Inv (a0a CX P w K mg base N qual scope f cd A outer s H E) [] (start N vs) H s1:=by
  have fJ:ps.length≤N.length:=by have:=fC iQ S.pre;rw[eh]at this;omega
  obtain⟨h1,tk,rfl,hk⟩:=x.done;have sG:∀b:au,b∉(a0a CX P w K mg base N qual scope f cd A outer s H E).ex:=λb z=>absurd (show b∈([]:List au) from z) (by simp)
  refine⟨⟨e0.mod,S.kind,rfl,rfl,aD _,λy z c h1 h2=>?_,λy hy=>?_,λy c _ h=>?_,λ_=>hd,bD.frames_deeper e0.frames,.inr ⟨rfl,rfl⟩,λb z=>absurd z (sG b),e0.bs,e0.bsz,λb _ _=>sG b,λb z=>absurd z (sG b),e0.funs,e0.frf,e0.tabs⟩,
    rfl,e0.bare,Un.kept hk,⟨_,x.toInCall.ns,λi y v h1 h2 h3=>?_⟩,λy c h=>⟨_,x.cell y c h⟩,e0.hok.fresh (aD _),λy c h=>?_,λp hp=>absurd (show p∈([]:List (au×fD)) from hp) (by simp),e0.hok.kept hk,?_⟩
  · exact name_of_addr x.apart (bZ h1) (bZ h2)
  · have hy:scope.names.lookup y=el .cell∨scope.names.lookup y=el .free:=hy
    rcases hy with hy|hy
    · exact a5p hy
    · exact absurd rfl (S.nofree _ (bZ hy))
  · exact dE (x.above y c (bZ h))
  · have hi:i<vs.length:=by
      unfold start at h2;by_cases hi:i<vs.length
      · exact hi
      · rw[eZ (by simpa using hi)]at h2
        rw[sC]at h2
        split at h2<;>cases h2
    have ha:vs[i]?=el v:=by
      unfold start at h2;rw[gG (by simpa using hi),aU]at h2;cases e:vs[i]? with
      |none=>rw[e]at h2;cases h2
      |some a=>rw[e]at h2;cases h2;rfl
    obtain⟨u,hu,rv⟩:=r.get ha;have hp:ps[i]?=el y:=by
      rw[←S.pre,List.getElem?_take_of_lt (by omega)];exact h1
    have zL:ps.Nodup:=by rw[←S.pre];exact S.nd.sublist (List.take_sublist _ _)
    refine⟨u,rv,?_⟩;rcases S.par y (bo hp) with k|k
    · exact .inl ⟨k,a3u zL hp hu k⟩
    · obtain⟨c,e⟩:=a5p (n:=s.heap.objs.size+1) k
      refine .inr ⟨.inl k,c,e,?_⟩;have q:=x.cell y c e;rw[a3v zL hp hu (by show scope.names.lookup y≠_;rw[k];decide)]at q;exact q
  · exact e0.hok.fresh (dE (x.above y c (bZ h)))
  · unfold start
    show _=N.length;rw[bg,ar,fW];omega
def b5s{CX:CXT}{P:br}{w:bL}{K:ag}{mg:bC→Option ah}{base:bN}{k:Nat}{f:au}{name qual:bC}{params:lH}{body:List gM}{scope:fZ}{dV kV doc pm gd ct oc:ah}{an od:Option au}
    {ou:Array (Option ah)} {N ps:List bC} {sp:Sp} (lk:K.lookup f=el ⟨oc,od,.func (fS name qual params body scope dV kV doc pm an gd ct),ou⟩) (iJ:lD K gd qual=true) (S:FnScope N ps scope)
    (len:∀vs H Q E,sp vs H Q E→vs.length=ps.length)
    (pN:∀(A:bD) (outer:List n_) (s:ai) (H:Hp) (vs:List V) (Q:VK) (E:XK),Room k (A.deeper (iY qual scope s.heap.objs.size f gd))→sp vs H Q E→
      ∃t,PSs (a0a CX P w K mg base N qual scope f gd A outer s H E) body t∧t {nx:=λ_ H'=>Q .non H',rt:=Q} (start N vs) H) :
    FnOk P w K mg base CX (k+1) f (fS name qual params body scope dV kV doc pm an gd ct) ps sp:=by
  refine⟨len,λA outer s H args us vs Q E hr e0 hb r pB=>?_⟩;have hl:=len _ _ _ _ pB;have KX:K.In s.heap:=e0.mod.kin.keeps λb o e=>(e0.bs b o e).1
  have lim:s.heap.NoLimit:=e0.mod.nolimit.keeps λb o e=>(e0.bs b o e).1
  have vh:∀y∈ps.zip us,scope.names.lookup y.1=el .local∨(scope.names.lookup y.1=el .cell∧((cellsFrom (s.heap.objs.size+1) scope.names []).lookup y.1).isSome=true):=λ⟨n,v⟩ hy=>by
    rcases S.par n (gU hy).1 with q|q
    · exact .inl q
    · exact .inr ⟨q,tN _ _ _ (.inl q)⟩
  refine codeAny_call_function hr.depth (KX _ _ lk) rfl S.co S.gen rfl (PySem.W.codeRec_of KX iJ) (hb _ _ _ _ ?_);refine wpAny_newFunctionEnv_cells S.kind vh λenv he s1 x=>?_
  subst he;refine⟨lim.keeps x.toInCall.keep,codeAny_func ?_⟩;obtain⟨t,ht,hq⟩:=pN A outer s H vs Q E (hr.deeper _) pB;have I:Inv (a0a CX P w K mg base N qual scope f gd A outer s H E) [] (start N vs) H s1:=a9e S hr.hd e0 hl r x;refine cX (ht [] s1 (start N vs) H _ I hq) (λfl s' hs=>?_) λe s' hs=>hs
  have fin:∀{σ':St} {H':Hp} {v:V} {u:ah},Inv (a0a CX P w K mg base N qual scope f gd A outer s H E) [] σ' H' s'→RelV v u→Q v H'→CE outer P w H s Q u s':=
    λ{σ' H' v u} J rv q=>⟨v,H',J.os,J.bare,J.base,J.hok,rv,q⟩
  cases fl with
  |ret u=>
    obtain⟨v,σ',H',J,rv,q⟩:=hs;exact fin J rv q
  |next=>
    obtain⟨σ',H',J,q⟩:=hs;exact fin (v:=V.non) (u:=bz) J rfl q
  |brk=>
    obtain⟨_,_,_,q⟩:=hs;exact cK q
  |cont=>
    obtain⟨_,_,_,q⟩:=hs;exact cK q
section
variable {X:Cx}{x:bC}{p pos:ff}{e:Expr}{es:List Expr}{t:TA}{id T:String}{r:List V→Hp→VK→Prop}
def tCB(r:List V→Hp→VK→Prop)(t:TA):TE:=λσ H Q=>t σ H λvs H1=>r vs H1 Q
def K1(hc:CallR X (.builtin id) r)(hg:Gl X x)(hm:X.mg x=p4)(hv:gf x=el (.builtin id))(ha:PA X (e::es) t)(hn:x≠"__name__":=by decide)(kM:(x==("__debug__":bC))=false:=by decide)
    (he:aw (e::es) X.env=(false,cy e X.env)::aw es X.env:=by rfl) (fJ:(cx pos (aw es X.env)).any (·.1)=false:=by rfl):PE X (.Call (.Name x p) (e::es) [] pos) (tCB r t):=by
  intro pins s σ H Q I h;refine fA (Y3 I hg hm hv ?_ hn kM);exact PyProof.Rows.callWith_builtin1 (thn (ha pos pins s σ H _ I h) λus s1 ⟨vs,H1,I1,r1,q1⟩=>hc pins s1 σ H1 vs us Q I1 r1 q1) he fJ
def J7(hc:CallR X (.type T) r)(hg:Gl X x)(hm:X.mg x=p4)(hv:gf x=el (.type T))(ha:PA X (e::es) t)(hn:x≠"__name__":=by decide)(kM:(x==("__debug__":bC))=false:=by decide)
    (he:aw (e::es) X.env=(false,cy e X.env)::aw es X.env:=by rfl) (fJ:(cx pos (aw es X.env)).any (·.1)=false:=by rfl):PE X (.Call (.Name x p) (e::es) [] pos) (tCB r t):=by
  intro pins s σ H Q I h;refine fA (Y3 I hg hm hv ?_ hn kM);exact eQ (thn (ha pos pins s σ H _ I h) λus s1 ⟨vs,H1,I1,r1,q1⟩=>hc pins s1 σ H1 vs us Q I1 r1 q1) he fJ
end
end L2
namespace HT
open PySem PyProof.Rows
section
variable {prog:br}{w:bL}{A:bD}{E:ah→ai→Prop}{s:ai}
def b3E{vs ws:List ah}(ht:IsTup s.heap t vs.toArray)(hb:IsTup s.heap b ws.toArray)(hv:vs≠[])
    (h1:ws=[]→Q (.ref t) s) (h2:ws≠[]→Q (.ref s.heap.objs.size) {s with heap:=s.heap.push {cls:=.type "tuple",data:=.seq (vs++ws).toArray}})
    (hsz:vs.length+ws.length≤aS):aC (aV prog w) A (eL .Add (.ref t) (.ref b)) Q E s:=by
  obtain⟨⟨cls,dd,data,sl⟩,ho,hc,n,hd⟩:=id ht;obtain⟨⟨zg,wY,data2,wm⟩,sS,md,n2,hd2⟩:=id hb;simp only at hc hd md hd2;subst hc hd md hd2;have e:vs.toArray++ws.toArray=(vs++ws).toArray:=by simp
  by_cases hw:ws=[]
  · exact EV ⟨_,ho,rfl⟩ ⟨_,sS,rfl⟩ qP xt kB kg (jR _ _)
      (tuple_addW1 t b vs.toArray ws.toArray n n2 dd wY sl wm (by simpa using hv) (by simp[hw])) ⟨ho,sS,h1 hw⟩
  · refine EV ⟨_,ho,rfl⟩ ⟨_,sS,rfl⟩ qP xt kB kg (jR _ _)
      (tuple_addW2 t b vs.toArray ws.toArray n n2 dd wY sl wm (by simpa using hv) (by simpa using hw) (by rw[bb,bb];exact hsz)) ⟨ho,sS,?_⟩
    rw[e];exact h2 hw
def sIx(n d:Nat):Option Int→Nat
  |none=>d
  |some v=>if v<0 then (v+(n:Int)).toNat else min v.toNat n
end
end HT
namespace L2
open PySem PySem.Spec PyProof.Rows
abbrev TO:=St→Hp→(Option Int→Hp→Prop)→Prop
def PO(X:Cx)(e:Option Expr)(t:TO):Prop:=
  ∀(pins:List (au×fD)) (s:ai) (σ:St) (H:Hp) (Q:Option Int→Hp→Prop),Inv X pins σ H s→t σ H Q→
    aC (aV X.prog X.w) X.A (evalPart e X.env) (λu s'=>∃o H',Inv X pins σ H' s'∧IsPart u o∧Q o H') X.xe s
def b3F:TO:=λ_ H Q=>Q p4 H
def b8t(t:TE):TO:=λσ H Q=>t σ H λx H1=>∃i,x=.int i∧Q (el i) H1
section
variable {X:Cx}{e:Expr}{te:TE}{lo hi:Option Expr}{tl th:TO}{pos p2:ff}
def b3G:PO X p4 b3F:=by
  intro pins s σ H Q I h;rw[evalPart_none];exact ae ⟨p4,H,I,.none,h⟩
def b3H(h:PE X e te):PO X (el e) (b8t te):=by
  intro pins s σ H Q I hw;rw[evalPart_some];refine thn (h pins s σ H _ I hw) λu s1 ⟨x,H1,I1,r1,q1⟩=>?_
  obtain⟨i,rfl,q⟩:=q1;obtain⟨t,rfl⟩:=r1;exact⟨el i,H1,I1,.int i t,q⟩
def SlR(X:Cx)(r:V→Option Int→Option Int→Hp→VK→Prop):Prop:=
  ∀(pins:List (au×fD)) (s:ai) (σ:St) (H:Hp) (x:V) (v vl vu:ah) (lo hi:Option Int) (sl:au) (Q:VK),Inv X pins σ H s→RelV x v→s.heap.IsSliceOf sl vl vu .none→IsPart vl lo→IsPart vu hi→r x lo hi H Q→
    ∃T id,om (.type T) "__getitem__"=pure (el (.builtin id))∧s.TypeIs v T∧aC (aV X.prog X.w) X.A (pU v (.ref sl)) (EP X pins σ Q) X.xe s
def tSl(r:V→Option Int→Option Int→Hp→VK→Prop)(te:TE)(tl th:TO):TE:=λσ H Q=>te σ H λx H1=>tl σ H1 λl H2=>th σ H2 λu H3=>r x l u H3 Q
def b0Y(hr:SlR X r)(he:PE X e te)(hl:PO X lo tl)(hu:PO X hi th):PE X (.Subscript e (.Slice lo hi p4 p2) pos) (tSl r te tl th):=by
  intro pins s σ H Q I h;refine Subscript_ (thn (he pins s σ H _ I h) λv s1 ⟨x,H1,I1,r1,q1⟩=>?_);refine wpAny_Slice (thn (hl pins s1 σ H1 _ I1 q1) λvl s2 ⟨l,H2,I2,pl,q2⟩=>thn (hu pins s2 σ H2 _ I2 q2) λvu s3 ⟨u,H3,I3,pu,q3⟩=>?_);rw[evalPart_none];refine ae ?_;have I4:Inv X pins σ H3 {s3 with heap:=s3.heap.push {cls:=.type "slice",data:=.fields #[vl,vu,.none]}}:=I3.kept (t':=s3.toks) λb ob q=>af _ q
  obtain⟨T,id,hT,ht,hg⟩:=hr pins {s3 with heap:=s3.heap.push {cls:=.type "slice",data:=.fields #[vl,vu,.none]}} σ H3 x v vl vu l u s3.heap.objs.size Q I4 r1 (bN.IsSliceOf.new ..) pl pu q3;show aC (aV X.prog X.w) X.A (subscriptTail e (.Slice lo hi p4 p2) v (.ref s3.heap.objs.size)) (EP X pins σ Q) X.xe {s3 with heap:=s3.heap.push {cls:=.type "slice",data:=.fields #[vl,vu,.none]}};exact tail_any (ops:=[.ref s3.heap.objs.size,v]) ht hT hg (by with_unfolding_all rfl)
def a6L(xs:List V)(lo hi:Option Int):List V:=(xs.drop (HT.sIx xs.length 0 lo)).take (HT.sIx xs.length xs.length hi-HT.sIx xs.length 0 lo)
def a5q(xs:List V)(lo hi:Option Int):(a6L xs lo hi).length≤xs.length:=by
  unfold a6L;rw[eh,Fi];omega
def b5t(K:ag):R2:=λx y H Q=>∃a b xs ys,x=.ref a∧y=.ref b∧SqT K H a xs∧SqT K H b ys∧xs≠[]∧xs.length+ys.length≤aS∧
  (ys=[]→Q (.ref a) H)∧(ys≠[]→∀p,H p=p4→Q (.ref p) (upd H p (.tup (xs++ys))))
def Vals.nil_iff(r:Vals xs us):us=[]↔xs=[]:=by
  cases r with
  |nil=>simp
  |cons _ _=>simp
def b3I:OpR X (eL .Add) (b5t X.K):=by
  intro pins s σ H x y v u Q I rx ry h;obtain⟨a,b,xs,ys,rfl,rfl,ha,hb,hx,hz,q1,q2⟩:=h;cases rx
  cases ry
  obtain⟨cJ,r1,p1,_⟩:=I.tuple ha;obtain⟨qQ,r2,p2,_⟩:=I.tuple hb;refine HT.b3E p1 p2 (λz=>hx (r1.nil_iff.mp z)) (λz=>⟨.ref a,H,I,rfl,q1 (r2.nil_iff.mp z)⟩) (λz=>?_) (by rw[←r1.length,←r2.length];exact hz);refine⟨.ref s.heap.objs.size,_,I.laid (t':=s.toks) (o:=.tup (xs++ys)) (λb ob q=>af _ q) (aD _) ?_,rfl,q2 (λw=>z (r2.nil_iff.mpr w)) _ (I.hok.fresh (aD _))⟩;exact⟨by rw[bg];exact hz,_,r1.append r2,IsTup.new _ _⟩
end
def ixN(n:Nat)(i:Int):Option Nat:=if 0≤i then (if i<n then el i.toNat else p4) else if -(n:Int)≤i then el (i+n).toNat else p4
def atI{α:Type}(xs:List α)(i:Int):Option α:=(ixN xs.length i).bind λj=>xs[j]?
def b3J(h:ixN n i=el j):seqIndex? i n=el j∧j<n∧-(n:Int)≤i∧i<n:=by
  unfold ixN at h;by_cases h0:0≤i
  · rw[aB h0]at h
    by_cases h1:i<n
    · rw[aB h1]at h
      have e:i.toNat=j:=aK h;exact⟨by rw[seqIndex_of h0 h1,e],by omega,by omega,h1⟩
    · rw[aI h1]at h;cases h
  · rw[aI h0]at h
    by_cases h1:-(n:Int)≤i
    · rw[aB h1]at h
      have e:(i+n).toNat=j:=aK h;exact⟨by rw[seqIndex_neg (by omega) h1,e],by omega,h1,by omega⟩
    · rw[aI h1]at h;cases h
def a8d{α:Type}{xs:List α}{i:Int}{v:α}(h:atI xs i=el v):∃j,seqIndex? i xs.length=el j∧xs[j]?=el v∧j<xs.length∧-(xs.length:Int)≤i∧i<xs.length:=by
  unfold atI at h;cases e:ixN xs.length i with
  |none=>rw[e]at h;cases h
  |some j=>
    rw[e]at h;obtain⟨h1,h2,h3,h4⟩:=b3J e;exact⟨j,h1,h,h2,h3,h4⟩
def a1L(b:Expr):Prop:=∀o i,rO b false o i=operate [o,i] (pU o i)
def IxR(X:Cx)(r:R2):Prop:=
  ∀(value slice:Expr) (pins:List (au×fD)) (s:ai) (σ:St) (H:Hp) (x y:V) (v u:ah) (Q:VK),Inv X pins σ H s→RelV x v→RelV y u→r x y H Q→
    rO slice false v u=operate [v,u] (pU v u)→aC (aV X.prog X.w) X.A (subscriptTail value slice v u) (EP X pins σ Q) X.xe s
def MtR(X:Cx)(id:String)(r:V→List V→Hp→VK→Prop):Prop:=
  ∀(pins:List (au×fD)) (s:ai) (σ:St) (H:Hp) (x:V) (xs:List V) (v:ah) (us:List ah) (Q:VK),Inv X pins σ H s→RelV x v→Vals xs us→r x xs H Q→
    aC (aV X.prog X.w) X.A (call (.builtin id) (v::us)) (EP X pins σ Q) X.xe s
section
variable {X:Cx}{a b:Expr}{ta tb:TE}{pos:ff}
def IxR.or(h:IxR X r)(h':IxR X r'):IxR X (λx y H Q=>r x y H Q∨r' x y H Q):=by
  intro value slice pins s σ H x y v u Q I rx ry q hs;rcases q with q|q
  · exact h value slice pins s σ H x y v u Q I rx ry q hs
  · exact h' value slice pins s σ H x y v u Q I rx ry q hs
def b0Z(hr:IxR X r)(ha:PE X a ta)(hb:PE X b tb)(hs:a1L b):PE X (.Subscript a b pos) (tOp r ta tb):=by
  intro pins s σ H Q I h;exact Subscript_ (b6h ha hb I h λv u s2 x y H2 I2 rx ry q=>hr a b pins s2 σ H2 x y v u Q I2 rx ry q (hs _ _))
def b8u(K:ag):R2:=λx y H Q=>∃p xs i v,x=.ref p∧y=.int i∧SqL K H p xs∧atI xs i=el v∧Q v H
def b8v(K:ag):R2:=λx y H Q=>∃p xs i v,x=.ref p∧y=.int i∧SqT K H p xs∧atI xs i=el v∧Q v H
def b3K:IxR X (b8u X.K):=by
  intro value slice pins s σ H x y v u Q I rx ry h hs;obtain⟨p,xs,i,z,rfl,rfl,hq,he,q⟩:=h;cases rx
  obtain⟨t,rfl⟩:=ry;obtain⟨cJ,r,pl,hz⟩:=I.list hq;obtain⟨j,h1,h2,h3,h4,h5⟩:=a8d he;obtain⟨w,ew,xw⟩:=r.get h2;have hl:=r.length;have hn:=a1Z;have fin:EP X pins σ Q w s:=⟨z,H,I,xw,q⟩;by_cases h0:0≤i
  · have hj:i.toNat=j:=by
      rw[seqIndex_of h0 h5]at h1;exact aK h1
    exact item_listR pl.isList h0 (by omega) (by rw[hj];simpa using ew) fin hs
  · have hj:(i+(cJ.toArray.size:Int)).toNat=j:=by
      rw[seqIndex_neg (by omega) h4]at h1;rw[bb,←hl];exact aK h1
    exact subscriptTail_builtinR (x:=w) pl.isList.typeIs slot_list_getitem.lookup
      (wpAny_getItem_list_neg (Q:=λr s'=>r=w∧EP X pins σ Q r s') pl.isList (by omega) (by rw[bb]<;>omega) (by omega) (by rw[hj];simpa using ew) ⟨rfl,fin⟩) hs
def b6u:IxR X (b8v X.K):=by
  intro value slice pins s σ H x y v u Q I rx ry h hs;obtain⟨p,xs,i,z,rfl,rfl,hq,he,q⟩:=h;cases rx
  obtain⟨t,rfl⟩:=ry;obtain⟨cJ,r,pl,hz⟩:=I.tuple hq;obtain⟨j,h1,h2,h3,h4,h5⟩:=a8d he;obtain⟨w,ew,xw⟩:=r.get h2;have hl:=r.length;have hn:=a1Z;have fin:EP X pins σ Q w s:=⟨z,H,I,xw,q⟩;exact subscriptTail_builtinR (x:=w) pl.typeIs slot_tuple_getitem.lookup
    (getItem_tuple (j:=j) (Q:=λr s'=>r=w∧EP X pins σ Q r s') pl (by omega) (by omega) (by rw[bb,←hl];exact h1) (by simpa using ew) ⟨rfl,fin⟩) hs
def a4s(lo hi:Option Int)(n:Nat):(jm lo hi p4 n).1=((HT.sIx n 0 lo:Nat):Int)∧(jm lo hi p4 n).2.1=((HT.sIx n n hi:Nat):Int)∧(jm lo hi p4 n).2.2=1:=by
  refine⟨?_,?_,rfl⟩
  · cases lo with
    |none=>simp[jm,HT.sIx]
    |some i=>
      simp only[jm,HT.sIx,Fc,show (1:Int)>0 by decide,gT];by_cases h:i<0
      · simp only[h,gT]<;>omega
      · simp only[h,dX]<;>omega
  · cases hi with
    |none=>simp[jm,HT.sIx]
    |some i=>
      simp only[jm,HT.sIx,Fc,show (1:Int)>0 by decide,gT];by_cases h:i<0
      · simp only[h,gT]<;>omega
      · simp only[h,dX]<;>omega
def a3k(cJ:List ah)(lo hi:Option Int):slicePick cJ.toArray lo hi p4=((cJ.drop (HT.sIx cJ.length 0 lo)).take (HT.sIx cJ.length cJ.length hi-HT.sIx cJ.length 0 lo)).toArray:=by
  obtain⟨h1,h2,h3⟩:=a4s lo hi cJ.toArray.size;unfold slicePick;rw[h1,h2,h3];simp only[sliceRange_one,pick_run,bb]<;>rfl
def c0e(K:ag):V→Option Int→Option Int→Hp→VK→Prop:=λx lo hi H Q=>∃a xs,x=.ref a∧SqL K H a xs∧∀p,H p=p4→Q (.ref p) (upd H p (.lst (a6L xs lo hi)))
def b3L:SlR X (c0e X.K):=by
  intro pins s σ H x v vl vu lo hi sl Q I rx hs pl pu h;obtain⟨a,xs,rfl,hx,q⟩:=h;cases rx
  obtain⟨cJ,r,ht,hz⟩:=I.list hx;have hlen:=r.length;refine⟨"list",_,slot_list_getitem.lookup,ht.isList.typeIs,?_⟩;refine wpAny_getItem_list_slice ht.isList hs pl pu .none (by simp) ?_ (by rw[bb]<;>omega);rw[a3k,←hlen];refine⟨.ref s.heap.objs.size,_,I.laid (t':=s.toks) (o:=.lst (a6L xs lo hi)) (λb ob q=>af _ q) (aD _) ?_,rfl,q _ (I.hok.fresh (aD _))⟩;exact⟨cw (a5q xs lo hi) hz,_,0,(r.drop (HT.sIx xs.length 0 lo)).take (HT.sIx xs.length xs.length hi-HT.sIx xs.length 0 lo),aE _ rfl⟩
def a4t:CallR X (.builtin "len") (λxs H Q=>∃p ys,xs=[.ref p]∧(SqL X.K H p ys∨SqT X.K H p ys)∧Q (.int ys.length) H):=by
  intro pins s σ H xs us Q I r h;obtain⟨p,ys,rfl,hq,q⟩:=h;obtain⟨u,rfl,rx⟩:=vals1 r;cases rx
  have hn:=a1Z;rcases hq with hq|hq
  · obtain⟨cJ,r',pl,hz⟩:=I.list hq
    have hlen:=r'.length;exact Calls.call_len_list pl.isList (by simp only[bb]<;>omega) ⟨.int ys.length,H,I.tok _,⟨s.toks+1,by rw[bb,hlen]⟩,q⟩
  · obtain⟨cJ,r',pl,hz⟩:=I.tuple hq
    have hlen:=r'.length;exact len_tuple pl (by simp only[bb]<;>omega) ⟨.int ys.length,H,I.tok _,⟨s.toks+1,by rw[bb,hlen]⟩,q⟩
def a4u:CallR X (.builtin "len") (λxs H Q=>∃z,xs=[.str z]∧z.length≤aS∧Q (.int z.length) H):=by
  intro pins s σ H xs us Q I r h;obtain⟨z,rfl,hz,q⟩:=h;obtain⟨u,rfl,t,rfl⟩:=vals1 r;have hn:=a1Z;exact len_str (by omega) ⟨.int z.length,H,I.tok _,⟨_,rfl⟩,q⟩
def CallR.or(h:CallR X f r)(h':CallR X f r'):CallR X f (λxs H Q=>r xs H Q∨r' xs H Q):=by
  intro pins s σ H xs us Q I rs q;rcases q with q|q
  · exact h pins s σ H xs us Q I rs q
  · exact h' pins s σ H xs us Q I rs q
def a0b:CallR X (.type "list") (λxs H Q=>∃p ys,xs=[.ref p]∧(SqL X.K H p ys∨SqT X.K H p ys)∧∀l,H l=p4→Q (.ref l) (upd H l (.lst ys))):=by
  intro pins s σ H xs us Q I r h;obtain⟨p,ys,rfl,hq,q⟩:=h;obtain⟨u,rfl,rx⟩:=vals1 r;cases rx
  have fin:∀(cJ:List ah),Vals ys cJ→ys.length≤aS→∀(h':bN) (c':Nat),(∀b o',s.heap.get? b=el o'→h'.get? b=el o')→
      h'.get? s.heap.objs.size=el {cls:=.type "list",dict:=p4,data:=.seq cJ.toArray c',slots:=#[]}→EP X pins σ Q (.ref s.heap.objs.size) {s with heap:=h'}:=λcJ r' hz h' c' kp e=>
    ⟨.ref s.heap.objs.size,_,I.laid (t':=s.toks) kp (aD _) (show ObjOk X.prog X.w _ h' _ (.lst ys) from⟨hz,cJ,c',r',e⟩),rfl,q _ (I.hok.fresh (aD _))⟩
  rcases hq with hq|hq
  · obtain⟨cJ,r',pl,hz⟩:=I.list hq
    have hlen:=r'.length;obtain⟨o,ho,hc,n,hd⟩:=pl.isList;exact call_list_seq p (.inl rfl) ho hc hd (λh' c' kp e=>fin cJ r' hz h' c' kp e) (by simp only[bb]<;>omega)
  · obtain⟨cJ,r',pl,hz⟩:=I.tuple hq
    have hlen:=r'.length;obtain⟨o,ho,hc,n,hd⟩:=pl;exact call_list_seq p (.inr rfl) ho hc hd (λh' c' kp e=>fin cJ r' hz h' c' kp e) (by simp only[bb]<;>omega)
def a3l:CallR X (.type "tuple") (λxs H Q=>∃p ys,xs=[.ref p]∧((SqL X.K H p ys∧∀l,H l=p4→Q (.ref l) (upd H l (.tup ys)))∨(SqT X.K H p ys∧Q (.ref p) H))):=by
  intro pins s σ H xs us Q I r h;obtain⟨p,ys,rfl,h⟩:=h;obtain⟨u,rfl,rx⟩:=vals1 r;cases rx
  rcases h with⟨hq,q⟩|⟨hq,q⟩
  · obtain⟨cJ,r',pl,hz⟩:=I.list hq
    have hlen:=r'.length;refine call_tuple_list pl.isList (λh' kp=>?_) (by simp only[bb]<;>omega);have I1:Inv X pins σ H {s with heap:=h'}:=I.kept (t':=s.toks) kp;have I2:Inv X pins σ (upd H h'.objs.size (.tup ys)) {s with heap:=h'.push {cls:=.type "tuple",data:=.seq cJ.toArray}}:=
      I1.laid (t':=s.toks) (λb o e=>af _ e) (aD _) (show ObjOk X.prog X.w _ _ _ (.tup ys) from⟨hz,cJ,r',IsTup.new _ _⟩)
    exact⟨.ref h'.objs.size,_,I2,rfl,q _ (I1.hok.fresh (aD _))⟩
  · obtain⟨cJ,r',pl,hz⟩:=I.tuple hq
    exact call_tuple_same pl ⟨.ref p,H,I,rfl,q⟩
def tyV(K:ag)(T:String)(x:V)(H:Hp):Prop:=match x with
  |.str _=>T="str"
  |.int _=>T="int"
  |.ref p=>(T="list"∧∃xs,SqL K H p xs)∨(T="tuple"∧∃o,K.lookup p=el o∧o.cls=.type "tuple"∧o.dict=p4)∨
      (T="dict"∧((∃kvs,H p=el (.dK kvs))∨∃kvs,H p=el (.dT kvs)))∨(T="set"∧∃S n,H p=el (.set S n))
  |_=>False
def b1a(I:Inv X pins σ H s)(r:RelV x v)(ty:tyV X.K T x H) :
    s.TypeIs v T∧∀a,v=.ref a→∃ob,s.heap.get? a=el ob∧ob.dict=p4:=by
  cases x with
  |str z=>
    obtain⟨t,rfl⟩:=r;cases (show T="str" from ty)
    exact⟨typeIs_str s z t,λ_ e=>nomatch e⟩
  |int i=>
    obtain⟨t,rfl⟩:=r;cases (show T="int" from ty)
    exact⟨typeIs_int s i t,λ_ e=>nomatch e⟩
  |ref p=>
    cases r
    rcases ty with⟨rfl,xs,hq⟩|⟨rfl,o,hk,hc,hd⟩|⟨rfl,hk⟩|⟨rfl,S,n,hk⟩
    · obtain⟨cJ,_,pl,_⟩:=I.list hq
      refine⟨pl.isList.typeIs,λa e=>?_⟩;cases e
      obtain⟨o,n,e,c,hd,_⟩:=pl;exact⟨o,e,hd⟩
    · refine⟨⟨o,I.kIn p o hk,hc⟩,λa e=>?_⟩
      cases e
      exact⟨o,I.kIn _ o hk,hd⟩
    · have z:∃o,s.heap.get? p=el o∧o.ExactDict:=by
        rcases hk with⟨kvs,hk⟩|⟨kvs,hk⟩
        · obtain⟨_,_,_,_,o,_,_,e,ex,_⟩:=I.hok p _ hk
          exact⟨o,e,ex⟩
        · obtain⟨_,_,_,_,o,_,_,e,ex,_⟩:=I.hok p _ hk
          exact⟨o,e,ex⟩
      obtain⟨o,e,ex⟩:=z;refine⟨⟨o,e,ex.1⟩,λa e2=>?_⟩;cases e2
      exact⟨o,e,ex.2.1⟩
    · obtain⟨o,_,_,_,e,ex,_⟩:=I.hok p _ hk
      refine⟨⟨o,e,ex.1⟩,λa e2=>?_⟩;cases e2
      exact⟨o,e,ex.2.1⟩
  |_=>exact cK ty
def c0f(K:ag)(T:String)(r:V→List V→Hp→VK→Prop)(to:TE):TE:=λσ H Q=>to σ H λx H1=>tyV K T x H1∧r x [] H1 Q
def tBM(K:ag)(T:String)(r:V→List V→Hp→VK→Prop)(to:TE)(t:TA):TE:=λσ H Q=>to σ H λx H1=>tyV K T x H1∧t σ H1 λxs H2=>r x xs H2 Q
variable {o e:Expr}{es:List Expr}{to:TE}{t:TA}{name:bC}{apos cH:ff}{T id:String}{r:V→List V→Hp→VK→Prop}
def b6v(pa:PlainAttrs T)(slot:Slot T name id)(uX:typeOf (.builtin id)=pure (.type "method_descriptor"))(hm:MtR X id r)(ho:PE X o to)
    (eK:dc o name X.env (cy o X.env)=cy o X.env:=by rfl) (eJ:(apos.endLine==cH.line)=true:=by rfl):PE X (.Call (.Attribute o name apos) [] [] cH) (c0f X.K T r to):=by
  intro pins s σ H Q I h;refine ir eK eJ (thn (ho pins s σ H _ I h) λv s1 ⟨x,H1,I1,r1,ty,q1⟩=>?_);obtain⟨h1,h2⟩:=b1a I1 r1 ty;exact⟨T,id,pa,slot,uX,h1,h2,fg rfl (ja (hm pins s1 σ H1 x [] v [] Q I1 r1 .nil q1))⟩
def b5u(pa:PlainAttrs T)(slot:Slot T name id)(uX:typeOf (.builtin id)=pure (.type "method_descriptor"))(hm:MtR X id r)(ho:PE X o to)(ha:PA X (e::es) t)
    (eK:dc o name X.env (cy o X.env)=cy o X.env:=by rfl)
    (kq:((cx cH (aw (e::es) X.env)).all (λx=>!x.1)&&(mV cH (jn [] X.env)).all (λx=>x.1.isSome)
      && decide ((e::es).length+([]:List hJ).length+(if ([]:List hJ).isEmpty then 0 else 1)<30))=true:=by rfl)
    (eJ:(apos.endLine==cH.line)=true:=by rfl) (hs:aw (e::es) X.env=(false,cy e X.env)::aw es X.env:=by rfl) (gI:(cx cH (aw es X.env)).any (·.1)=false:=by rfl) :
    PE X (.Call (.Attribute o name apos) (e::es) [] cH) (tBM X.K T r to t):=by
  intro pins s σ H Q I h;refine BC eK kq eJ rfl (thn (ho pins s σ H _ I h) λv s1 ⟨x,H1,I1,r1,ty,q1⟩=>?_);obtain⟨h1,h2⟩:=b1a I1 r1 ty;refine⟨T,id,pa,slot,uX,h1,h2,?_⟩;have hA:=ha cH pins s1 σ H1 _ I1 q1;rw[hs]at hA ⊢;refine fg (by show (false||(cx cH (aw es X.env)).any (·.1))=false;rw[gI]<;>rfl) (nr ?_);exact thn hA λus s2 ⟨vs,H2,I2,r2,q2⟩=>hm pins s2 σ H2 x vs v us Q I2 r1 r2 q2
/- xs.append(e), list.index on a uN tuple .. are MtR facts of 06m -/
end
def MtM(X:Cx)(id:String)(r:V→List V→Hp→VK→Prop):Prop:=
  ∀(pins:List (au×fD)) (s:ai) (σ:St) (H:Hp) (x:V) (xs:List V) (v:ah) (us:List ah) (Q:VK),Inv X pins σ H s→RelV x v→Vals xs us→r x xs H Q→
    aC (aV X.prog X.w) X.A (call (.builtin id) (v::us)) (EP X pins σ Q) X.xe s
def Vals.one:∀{x:V} {us:List ah},Vals [x] us→∃u,us=[u]∧RelV x u
  |_,_,.cons r .nil=>⟨_,rfl,r⟩
def Vals.zero:∀{us:List ah},Vals [] us→us=[]
  |_,.nil=>rfl
section
variable {X:Cx}{pins:List (au×fD)}{σ:St}{H:Hp}{s:ai}{l b:au}{xs ys zs:List V}
def Inv.lset{cJ its':List ah}(I:Inv X pins σ H s)(hH:H l=el (.lst xs))
    (e:s.heap.get? l=el {cls:=.type "list",data:=.seq cJ.toArray n}) (hf:f cJ.toArray=its'.toArray) (hv:Vals ys its') (hz:ys.length≤aS) :
    Inv X pins σ (upd H l (.lst ys)) {s with heap:=s.heap.update l (eu f),toks:=t'}:=by
  have q:=PySem.IsL.update e f;rw[hf]at q;refine I.write (x:=l) (e:=l) (by rw[hH];exact trivial) (.inl rfl) (λb' u hb hu=>(c_ s.heap (eu f) (dN hb)).trans hu) ⟨_,q⟩ ?_;exact⟨hz,its',_,hv,q⟩
def Inv.lnew(I:Inv X pins σ H s)(hv:Vals ys cJ)(hz:ys.length≤aS) :
    Inv X pins σ (upd H s.heap.objs.size (.lst ys)) {s with heap:=s.heap.push {cls:=.type "list",data:=.seq cJ.toArray},toks:=t'}:=
  I.laid (λ_ _ q=>af _ q) (aD _) ⟨hz,cJ,0,hv,aE _ rfl⟩
theorem Inv.fresh(I:Inv X pins σ H s):H s.heap.objs.size=p4:=I.hok.fresh (aD _)
def Inv.lstM(I:Inv X pins σ H s)(hH:H l=el (.lst xs)):xs.length≤aS∧∃(cJ:List ah) (n:Nat),Vals xs cJ∧xs.length=cJ.length∧s.heap.get? l=el {cls:=.type "list",data:=.seq cJ.toArray n}:=by
  obtain⟨z,cJ,n,r,e⟩:=I.hok l _ hH;exact⟨z,cJ,n,r,r.length,e⟩
end
section
variable {X:Cx}
def b3M:V→List V→Hp→VK→Prop:=λx vs H Q=>∃l xs y,x=.ref l∧vs=[y]∧H l=el (.lst xs)∧xs.length<aS∧Q .non (upd H l (.lst (xs++[y])))
def a0I:MtM X "list.append" b3M:=by
  intro pins s σ H x vs v us Q I rx rv h;obtain⟨l,xs,y,rfl,rfl,hH,hz,q⟩:=h;cases rx
  obtain⟨u,rfl,ru⟩:=rv.one;obtain⟨z,cJ,n,r,hl,e⟩:=I.lstM hH;refine call_meets F.slot_list_append ⟨_,e,rfl⟩ F.entry_list_append (F.args_list_append_2 _ _) (PySem.list_append l cJ.toArray n u (by rw[bb];omega)) ⟨e,?_⟩;refine⟨.non,_,I.lset (its':=cJ++[u]) hH e (by simp) (r.append (.cons ru .nil)) ?_,rfl,q⟩;rw[bg,uq];omega
end
end L2
namespace Att
open PySem PySem.W PySem.Calls PyProof.Rows
def a1J:∀(ns:List Int) (vs:List ah),WellAll P h vs (ns.map WData.int)→IntsAre vs ns:=by
  intro ns
  induction ns with
  |nil=>
    intro vs w;rw[cU]at w;cases w
    exact .nil
  |cons n ns ih=>
    intro vs w;rw[aA]at w;cases w with
    |cons a b=>
      cases a
      exact .cons _ _ (ih _ b)
def a9f{l:OpenLaw}(hn:l.most=el n) 
    (lh:l.row.toRowW.claim.pre args=true) (xO:WellAll P h vals args) :
    ∃a vs ns,vals=[aW a]∧args=[WData.list (ns.map WData.int)]∧h.get? a=el {cls:=.type "list",data:=.seq vs.toArray}∧IntsAre vs ns∧ns.length≤n:=by
  have CQ:WShape.hasAll [] args [.list .int]=true:=(pre_splitW lh).1;have hc:l.pre.holds [] {args:=args}=true:=(pre_splitW lh).2;obtain⟨d,r,rfl,h1,h2⟩:=hasAllW_cons CQ;obtain rfl:=hasAllW_nil h2;obtain⟨xs,rfl,h3⟩:=hasW_list h1;obtain⟨ns,rfl⟩:=items_int h3;have hlen:ns.length≤n:=by
    unfold OpenLaw.pre at hc;have h4:(WTm.not (.lt (.lit (.int (n:Int))) (.len (.arg 0)))).holds [] {args:=[.list (ns.map .int)]}=true:=by
      have h4:=(holds_andW hc).1;rw[hn]at h4;exact h4
    have h5:=condW_of h4 (w_not (w_lt w_lit (w_len_list (w_arg rfl))));rw[ar]at h5;refine Nat.le_of_not_lt λq=>?_
    have q':(n:Int)<((ns.length:Nat):Int):=by omega
    first
      | (rw[aH q']at h5;exact absurd h5 (by decide))
      | (simp at h5;omega)
  cases xO with
  |cons w1 w2=>
    cases w2
    cases w1 with
    |list ho jt=>exact⟨_,_,ns,rfl,rfl,ho,a1J ns _ jt,hlen⟩
def a9g(l:OpenLaw)(args:List WData):l.row.toRowW.claim.post args (.bool true) args=true:=
  postW_of (r:=l.row.toRowW) (X:=(true==true))
    (show WShape.has [] (.bool true) .bool=true by first|rfl|decide|simp[WShape.has,WShape.arms,WShape.armsAll])
    (show (WTm.eq .res (.lit (.bool true))).value [] {args:=args,res:=el (.bool true),after:=args}=el (.bool (true==true)) from w_eq_bool (w_res rfl) w_lit) rfl
def attach_call{l:OpenLaw}{d:DefRec}
    (hn:l.most=el n) (vx:d.params.defaults=[])
    (call:∀(w:bL) (s₀ s₁:ai) (mg mb:bC→Option ah) (fa:au) (o:fD) (pm cd doc:ah) (a:au) (vs:List ah) (ns:List Int),
      Ground q loose [] XP w s₀ mg mb s₁.heap→YP w s₁.heap→
      s₁.heap.get? fa=el o→o.data=.func (docDef d.name d.params d.body d.scope pm cd doc)→s₁.heap.CodeRec cd d.name→mg d.name=el (.ref fa)→
      s₁.heap.get? a=el {cls:=.type "list",data:=.seq vs.toArray}→IntsAre vs ns→ns.length≤n→s₁.gens=#[]→
      gF (aV l.prog w) ny (.call (.ref fa) ⟨[.ref a],[]⟩) (λr s'=>r=.ok (.ret (.bool true))∧OldK s₁.heap s'.heap∧s'.os=s₁.os∧og s'.gens) s₁) :
    WalkO q loose XP YP l.row.toRowW d [] (λf vs=>zi f vs):=by
  intro w s₀ s₁ mg mb G Y fa o pm cd doc dV kV ho hd iJ hD vf hg args vals as lh Ds FE xO FK;obtain rfl:dV=.none:=Dflts.none hD vx;obtain rfl:kV=.none:=Dflts.noKw hD;obtain⟨a,vs,ns,rfl,rfl,sR,hints,hlen⟩:=a9f hn lh xO;refine enter_call (fK (call w s₀ s₁ mg mb fa o pm cd doc a vs ns G Y ho (fd_plain hd) iJ vf sR hints hlen hg) λr s' hq=>?_);obtain⟨rfl,h2,h3,h4⟩:=hq;exact⟨.inl ⟨.bool true,.bool true,[],rfl,λ_=>rfl,.bool true,a9g l _,λ_=>⟨ik,λ_ hm=>(nomatch hm)⟩⟩,h2,h3,h4⟩
section
variable {prog:br}{w:bL}{A:bD}{E:ah→ai→Prop}{s:ai}{K:Frag}
def ledger(h:bN)(L d:au):List (au×fD):=(aX h.objs.size).filterMap λa=>if a=L∨a=d then p4 else (h.get? a).map λo=>(a,o)
end
end Att
namespace L2
open PySem PySem.Spec PyProof.Rows
theorem vals_ints:∀{vs:List ah} {ns:List Int},IntsAre vs ns→Vals (ns.map V.int) vs
  |_,_,.nil=>.nil
  |_,_,.cons n t h=>.cons ⟨t,rfl⟩ (vals_ints h)
abbrev KOf{K:ag}{h:bN}(_:K.In h):ag:=K
end L2
/- Gf Fk w_ (shape; LID, My.* are zr):
   My.Adr: a structure of oQ addresses qL BA zN names (classes,uk);My.Txt K t: a structure (Prop) of oQ equations over K;
   My.txt_mk:{K} {implicit addresses ..} (e1:nsIn K bP "law"=el (el (.ref f))) (e2:K.lookup f=el ⟨oc,od,.func (fnOf "law" "law" params body scope dV kV doc pm an gd ct),sl⟩) (e3:codeIn K gd "law"=true) ..:∃t,My.Txt K t
set_option maxRecDepth 100000 in
set_option maxHeartbeats 0 in
def PySem.Challenge.cw_LID_holds : PySem.Challenge.rw_LID.Holds := by
  w_on;o_law;k_head;(case hw=>w_witness2)
  k_fill
  refine L2.walk_of (l:=PySem.Challenge.rw_LID) (n:=63) (k:=40) (x:="script") (CX:=λw=>..) (sp:=λ_=>My.sp_law) rfl (by decide) rfl ⟨rfl,by decide,by decide⟩ (λw h Y=>PySem.W.kIn_of Y) ?F ?S ?C
  case F=>
    intro w mg fa h KX G vf;have T:∃t,My.Txt (L2.KOf KX) t:=by
      dsimp only[L2.KOf]                          -- K Ck zy as «<heap const> w.params» FV k_is
      refine' My.txt_mk ?e1 ?e2 ?e3 ..
      (case e1=>PySem.W.k_is)                    -- in oQ order: a name -> cJ address -> cJ object -> cJ parts
      (case e2=>PySem.W.k_is)
      ..
    obtain⟨t,T⟩:=T;have e0:=vf.symm.trans (jQ KX G T.law);cases e0                                       -- fa is oQ zO own address
    exact⟨_,λs u=>.of_eq rfl,λbase kb nb=>My.law_fn T kb nb⟩     -- if «.of_eq zD comes Fp early: refine' ⟨_,?b,λbase kb nb=>My.law_fn T kb nb⟩;exact λs u=>.of_eq rfl
  case S=>exact λw H a ns hl hO hS=>..
  case C=>exact ..
(oQ tactic k_is has no namespace: write k_is) -/
namespace L2
open PySem PySem.Spec PyProof.Rows
def P9(s:gM):lH:=match s with
  |.FunctionDef _ a _ _ _ _ _ _ _ _=>a
  |_=>{posonlyargs:=[],args:=[],vararg:=p4,kwonlyargs:=[],kw_defaults:=[],kwarg:=p4,defaults:=[]}
def v4(s:gM):List gM:=match s with
  |.FunctionDef _ _ b _ _ _ _ _ _ _=>b
  |_=>[]
def i8(s:gM):fZ:=match s with
  |.FunctionDef _ _ _ _ _ _ sc _ _ _=>sc
  |_=>{kind:=.function,names:=[],isGenerator:=false,isCoroutine:=false}
abbrev CX0:CXT:=λ_ _ _ _ _ _=>False
abbrev E0:XK:=λ_ _ _=>False
def b8w:a6K CX0 X E0:=λ_ _ _ _ _ _ _ h=>h.elim
structure Fun (K:ag) (x qual:bC) (st:gM) (f:au) (fd:dC):Prop where
  ex:∃(oc:ah) (od:Option au) (kV doc pm:ah) (an:Option au) (gd ct:ah) (ou:Array (Option ah)),
    fd=fS x qual (P9 st) (v4 st) (i8 st) .none kV doc pm an gd ct∧K.lookup f=el ⟨oc,od,.func fd,ou⟩∧lD K gd qual=true
  kp:fM K (.ref f)=true
section
variable {P:br}{w:bL}{K:ag}{mg:bC→Option ah}{base:bN}
def Fun.ok{x qual:bC}{st:gM}{f:au}{fd:dC}{N ps:List bC}{k:Nat}{sp:Sp}(F:Fun K x qual st f fd)(S:FnScope N ps (i8 st))(len:∀vs H Q E,sp vs H Q E→vs.length=ps.length)
    (pN:∀(gd:ah) (A:bD) (outer:List n_) (s:ai) (H:Hp) (vs:List V) (Q:VK) (E:XK),Room k (A.deeper (iY qual (i8 st) s.heap.objs.size f gd))→sp vs H Q E→
      ∃t,PSs (a0a CX0 P w K mg base N qual (i8 st) f gd A outer s H E).nox (v4 st) t∧t {nx:=λ_ H'=>Q .non H',rt:=Q} (start N vs) H):FnOk P w K mg base CX0 (k+1) f fd ps sp:=by
  obtain⟨oc,od,kV,doc,pm,an,gd,ct,ou,rfl,lk,iJ⟩:=F.ex;refine b5s lk iJ S len λA outer s H vs Q E hr pB=>?_
  obtain⟨t,h,q⟩:=pN gd A outer s H vs Q E hr pB;exact⟨t,h.nox,q⟩
def Fun.binds{x qual:bC}{st:gM}{f:au}{fd:dC}{ps:List bC}(F:Fun K x qual st f fd)
    (h:∀(kV doc pm:ah) (an:Option au) (gd ct:ah) (us:List ah),us.length=ps.length→pW (fS x qual (P9 st) (v4 st) (i8 st) .none kV doc pm an gd ct) ⟨us,[]⟩=pure (ps.zip us)):Binds K fd ps []:=by
  obtain⟨oc,od,kV,doc,pm,an,gd,ct,ou,rfl,lk,iJ⟩:=F.ex;exact .all (h kV doc pm an gd ct)
def b6w{x qual:bC}{st:gM}{f:au}{oc:ah}{od an:Option au}{ou:Array (Option ah)}{kV doc pm gd ct:ah}(l:K.lookup f=el ⟨oc,od,.func (fS x qual (P9 st) (v4 st) (i8 st) .none kV doc pm an gd ct),ou⟩)
    (c:lD K gd qual=true) (k:fM K (.ref f)=true):Fun K x qual st f (fS x qual (P9 st) (v4 st) (i8 st) .none kV doc pm an gd ct):=⟨⟨oc,od,kV,doc,pm,an,gd,ct,ou,rfl,l,c⟩,k⟩
end
def a0J(h:n≤1000):n<aS:=g_ h (by decide)
section
variable {X:Cx}
def pv(i:Nat)(hN:X.N[i]?=el x:=by rfl)(hv:Vis X.env.scope x:=by first|exact cn rfl|exact bY (cn rfl)|exact bY (bY rfl))(hd:(x==("__debug__":bC))=false:=by decide)
    (iJ:(x==("__classdict__":bC))=false:=by decide):PE X (.Name x pos) (b3u i):=C0 hN hv hd iJ
end
def a5r{A B:Prop}(h:B):if false=true then A else B:=by
  rw[aI aQ];exact h
def a5s{A B:Prop}(h:A):if true=true then A else B:=by
  rw[aB rfl];exact h
def Same(H H':Hp):Prop:=∀b o,H b=el o→H' b=el o
def Same.refl(H:Hp):Same H H:=λ_ _ h=>h
def Same.trans(a:Same H H1)(b:Same H1 H2):Same H H2:=λc o h=>b c o (a c o h)
def Same.free{H H':Hp}(e:Same H H'){l:au}(h:H' l=Option.none):H l=Option.none:=by
  cases q:H l with
  |none=>rfl
  |some o=>
    rw[e l o q]at h;cases h
end L2
set_option Elab.async false
set_option linter.all false
set_option maxRecDepth 100000
set_option maxHeartbeats 4000000
namespace L2
open PySem PySem.Spec PyProof.Rows
def L5(X:Cx)(N:List bC)(scope:fZ)(cl:List (bC×au))(C:au)(s:ai)(H:Hp)(fp:List au):Cx:=
 {X with N:=N,s₀:=s,H₀:=H,env:=compEnvC scope cl C X.env,outer:=X.stack,ex:=fp,fn:=λ_=>false,xe:=λ_ _=>False}
structure CompIn (X:Cx) (N:List bC) (scope:fZ) (cl:List (bC×au)) (τ:St→St):Prop where
 clos:oI scope X.env=pure cl
 kind:scope.kind=.function
 ncell:∀y∈scope.names,y.2≠.cell
 names:∀y∈scope.names,y.2=.local→scope.names.lookup y.1=el .local
 sub:∀x c,cl.lookup x=el c→X.env.cells.lookup x=el c
 has:∀y∈scope.names,y.2=.free→∃c,cl.lookup y.1=el c
 tlen:∀σ,(τ σ).length=N.length
 tval:∀(σ:St) (i:Nat) (x:bC) (v:V),N[i]?=el x→(τ σ)[i]?=el (el v)→∃j:Nat,X.N[j]?=el x∧σ[j]?=el (el v)∧scope.names.lookup x=el .free∧(X.env.kindOf x=el .cell∨X.env.kindOf x=el .free)
def a0c{scope:fZ}(hn:∀y∈scope.names,y.2≠.cell)(h:(lN scope env).names.lookup x=el .cell∨(lN scope env).names.lookup x=el .free):∃y∈scope.names,y.1=x∧y.2=.free:=by
 have key:∀k,(lN scope env).names.lookup x=el k→k=.cell∨k=.free→∃y∈scope.names,y.1=x∧y.2=.free:=λk e hk=>by
  have hm:=bZ e;unfold lN at hm;obtain⟨⟨n,k'⟩,hy,e2⟩:=aY.mp hm
  dsimp only at e2
  by_cases hc:(k'==fq&&env.scope.kind==.function&&env.kindOf n==el .cell)=true
  ·rw[aB hc]at e2;cases e2
   rw[av,av]at hc;exact⟨_,hy,rfl,by simpa using hc.1.1⟩
  ·rw[aI hc]at e2;cases e2
   rcases hk with rfl|rfl
   ·exact absurd rfl (hn _ hy)
   ·exact⟨_,hy,rfl,rfl⟩
 rcases h with h|h
 ·exact key _ h (.inl rfl)
 ·exact key _ h (.inr rfl)
def a4v{scope:fZ}(h:scope.names.lookup x=el .free):(lN scope env).names.lookup x=el .cell∨(lN scope env).names.lookup x=el .free:=by
 have key:∀names:List (bC×iP),names.lookup x=el .free→
   (names.map λ(n,k)=>if (k==fq&&env.scope.kind==.function&&env.kindOf n==el .cell) then (n,iP.cell) else (n,k)).lookup x=el .cell∨
   (names.map λ(n,k)=>if (k==fq&&env.scope.kind==.function&&env.kindOf n==el .cell) then (n,iP.cell) else (n,k)).lookup x=el .free:=by
  intro names
  induction names with
  |nil=>intro h;cases h
  |cons z r ih=>
   obtain⟨n,k⟩:=z;intro h;rw[aA]
   dsimp only
   rw[fN]at h;cases hx:x==n with
   |true=>
    rw[hx]at h;have hk:k=.free:=by simpa using h
    subst hk;by_cases hc:(fq==fq&&env.scope.kind==.function&&env.kindOf n==el .cell)=true
    ·rw[aB hc,fN,hx];exact .inl rfl
    ·rw[aI hc,fN,hx];exact .inr rfl
   |false=>
    rw[hx]at h;by_cases hc:(k==fq&&env.scope.kind==.function&&env.kindOf n==el .cell)=true
    ·rw[aB hc,fN,hx];exact ih h
    ·rw[aI hc,fN,hx];exact ih h
 exact key _ h
structure Has (P:br) (w:bL) (K:ag) (mg:bC→Option ah) (base:bN) (x:bC) (k:Nat) (ps:List bC) (sp:Sp):Prop where
 ex:∃f fd,FnOk P w K mg base CX0 k f fd ps sp∧Binds K fd ps []∧fM K (.ref f)=true∧mg x=el (.ref f)
def Has.up{P:br}{w:bL}{K:ag}{mg:bC→Option ah}{base:bN}{x:bC}{j k:Nat}{ps:List bC}{sp:Sp}(h:Has P w K mg base x j ps sp)(l:j≤k):Has P w K mg base x k ps sp:=by
 obtain⟨f,fd,a,b⟩:=h.ex;exact⟨f,fd,a.mono l,b⟩
section
variable {X:Cx}{k:Nat}{ps:List bC}{sp:Sp}{x:bC}{p pos:ff}{e:Expr}{es:List Expr}{t:TA}
def a4w(h:Has X.prog X.w X.K X.mg X.base x k ps sp)(hr:Room k X.A)(ha:PA X (e::es) t)(hg:Gl X x:=by rfl)(kM:(x==("__debug__":bC))=false:=by decide)
  (he:aw (e::es) X.env=(false,cy e X.env)::aw es X.env:=by rfl) (fJ:(cx pos (aw es X.env)).any (·.1)=false:=by rfl):PE X (.Call (.Name x p) (e::es) [] pos) (b5r sp [] E0 t):=by
 obtain⟨f,fd,F,b,kp,m⟩:=h.ex;exact b3D F hr hg m kp b .nil b8w ha kM he fJ
end
mutual
def Den(H:Hp):V→ba→Prop
 |v,.none=>v=.non
 |v,.bool b=>v=.bl b
 |v,.int i=>v=.int i
 |v,.str x=>v=.str x
 |v,.list ds=>∃a xs,v=.ref a∧H a=el (.lst xs)∧DenAll H xs ds
 |v,.tuple ds=>∃a xs,v=.ref a∧H a=el (.tup xs)∧DenAll H xs ds
 |v,.dict kvs=>kvs=[]∧∃a,v=.ref a∧H a=el (.dK [])
def DenAll(H:Hp):List V→List ba→Prop
 |xs,[]=>xs=[]
 |xs,d::ds=>∃v r,xs=v::r∧Den H v d∧DenAll H r ds
end
mutual
theorem Den.mono{H H':Hp}(e:Same H H'):∀(d:ba) {v:V},Den H v d→Den H' v d
 |.none,_,h=>by simpa only [Den]using h
 |.bool _,_,h=>by simpa only [Den]using h
 |.int _,_,h=>by simpa only [Den]using h
 |.str _,_,h=>by simpa only [Den]using h
 |.list ds,_,h=>by
  simp only[Den]at h ⊢;obtain⟨a,xs,h1,h2,h3⟩:=h;exact⟨a,xs,h1,e _ _ h2,DenAll.mono e ds h3⟩
 |.tuple ds,_,h=>by
  simp only[Den]at h ⊢;obtain⟨a,xs,h1,h2,h3⟩:=h;exact⟨a,xs,h1,e _ _ h2,DenAll.mono e ds h3⟩
 |.dict _,_,h=>by
  simp only[Den]at h ⊢;obtain⟨h0,a,h1,h2⟩:=h;exact⟨h0,a,h1,e _ _ h2⟩
theorem DenAll.mono{H H':Hp}(e:Same H H'):∀(ds:List ba) {xs:List V},DenAll H xs ds→DenAll H' xs ds
 |[],_,h=>by simpa only [DenAll]using h
 |d::ds,_,h=>by
  simp only[DenAll]at h ⊢;obtain⟨v,r,h1,h2,h3⟩:=h;exact⟨v,r,h1,Den.mono e d h2,DenAll.mono e ds h3⟩
end
def Den.up{H H':Hp}{d:ba}{v:V}(h:Den H v d)(e:Same H H'):Den H' v d:=Den.mono e d h
def DenAll.up{H H':Hp}{ds:List ba}{xs:List V}(h:DenAll H xs ds)(e:Same H H'):DenAll H' xs ds:=DenAll.mono e ds h
section
variable {H:Hp}
def den_none:Den H .non .none:=by simp only[Den]
def den_bool{b:Bool}:Den H (.bl b) (.bool b):=by simp only[Den]
def den_int{i:Int}:Den H (.int i) (.int i):=by simp only[Den]
def den_list{a:au}{xs:List V}{ds:List ba}(h:H a=el (.lst xs))(q:DenAll H xs ds):Den H (.ref a) (.list ds):=by
 simp only[Den];exact⟨a,xs,rfl,h,q⟩
def den_tup{a:au}{xs:List V}{ds:List ba}(h:H a=el (.tup xs))(q:DenAll H xs ds):Den H (.ref a) (.tuple ds):=by
 simp only[Den];exact⟨a,xs,rfl,h,q⟩
def denAll_nil:DenAll H [] []:=by simp only[DenAll]
def denAll_cons{v:V}{d:ba}{xs:List V}{ds:List ba}(h:Den H v d)(q:DenAll H xs ds):DenAll H (v::xs) (d::ds):=by
 simp only[DenAll];exact⟨v,xs,rfl,h,q⟩
def Den.list_inv{v:V}{ds:List ba}(h:Den H v (.list ds)):∃a xs,v=.ref a∧H a=el (.lst xs)∧DenAll H xs ds:=by simpa only [Den]using h
def Den.tup_inv{v:V}{ds:List ba}(h:Den H v (.tuple ds)):∃a xs,v=.ref a∧H a=el (.tup xs)∧DenAll H xs ds:=by simpa only [Den]using h
def Den.int_inv{v:V}{i:Int}(h:Den H v (.int i)):v=.int i:=by simpa only [Den]using h
def DenAll.cons_inv{xs:List V}{d:ba}{ds:List ba}(h:DenAll H xs (d::ds)):∃v r,xs=v::r∧Den H v d∧DenAll H r ds:=by simpa only [DenAll]using h
def DenAll.nil_inv{xs:List V}(h:DenAll H xs []):xs=[]:=by simpa only [DenAll]using h
theorem DenAll.length:∀{ds:List ba} {xs:List V},DenAll H xs ds→xs.length=ds.length
 |[],_,h=>by rw[h.nil_inv];rfl
 |d::ds,_,h=>by
  obtain⟨v,r,rfl,_,h⟩:=h.cons_inv;rw[bh,bh,DenAll.length h]
theorem DenAll.get:∀{ds:List ba} {xs:List V} {i:Nat} {d:ba},DenAll H xs ds→ds[i]?=el d→∃v,xs[i]?=el v∧Den H v d
 |[],_,i,d,_,e=>by simp at e
 |d0::ds,_,0,d,h,e=>by
  obtain⟨v,r,rfl,h1,_⟩:=h.cons_inv;have:d0=d:=by simpa using e
  subst this;exact⟨v,rfl,h1⟩
 |d0::ds,_,i+1,d,h,e=>by
  obtain⟨v,r,rfl,_,h1⟩:=h.cons_inv;obtain⟨u,h2,h3⟩:=DenAll.get (i:=i) h1 (by simpa using e);exact⟨u,by simpa using h2,h3⟩
def DenAll.getV{ds:List ba}{xs:List V}{i:Nat}{v:V}(h:DenAll H xs ds)(e:xs[i]?=el v):∃d,ds[i]?=el d∧Den H v d:=by
 have hi:=(aP.mp e).1;rw[h.length]at hi;obtain⟨u,h1,h2⟩:=h.get (ak hi);rw[e]at h1;cases h1
 exact⟨_,ak hi,h2⟩
theorem DenAll.append:∀{ds:List ba} {xs:List V} {es:List ba} {ys:List V},DenAll H xs ds→DenAll H ys es→DenAll H (xs++ys) (ds++es)
 |[],_,_,_,h,q=>by rw[h.nil_inv];exact q
 |d::ds,_,_,_,h,q=>by
  obtain⟨v,r,rfl,h1,h2⟩:=h.cons_inv;exact denAll_cons h1 (DenAll.append h2 q)
end
mutual
theorem Den.reads{P:br}{w:bL}{H:Hp}{h:bN}(ok:HOk P w H h):∀(d:ba) {v:V} {u:ah},d.canLay0=true→Den H v d→RelV v u→∃as,Reads h u d as
 |.none,v,u,_,q,r=>by
  simp only[Den]at q;subst q;cases (show u=bz from r)
  exact⟨_,.none⟩
 |.bool b,v,u,_,q,r=>by
  simp only[Den]at q;subst q;cases (show u=ji b from r)
  exact⟨_,.bool b⟩
 |.int i,v,u,_,q,r=>by
  simp only[Den]at q;subst q;obtain⟨t,rfl⟩:=r;exact⟨_,.int i t⟩
 |.str x,v,u,_,q,r=>by
  simp only[Den]at q;subst q;obtain⟨t,rfl⟩:=r;exact⟨_,.str x t⟩
 |.list ds,v,u,hl,q,r=>by
  simp only[Den]at q;obtain⟨a,xs,rfl,h1,h2⟩:=q;cases (show u=aW a from r)
  obtain⟨z,cJ,n,rv,e⟩:=ok a _ h1;obtain⟨as,ra⟩:=DenAll.reads ok ds hl h2 rv;exact⟨_,.list e rfl rfl (by simpa using ra)⟩
 |.tuple ds,v,u,hl,q,r=>by
  simp only[Den]at q;obtain⟨a,xs,rfl,h1,h2⟩:=q;cases (show u=aW a from r)
  obtain⟨z,cJ,rv,o,e,c,n,d⟩:=ok a _ h1;obtain⟨as,ra⟩:=DenAll.reads ok ds hl h2 rv;exact⟨_,.tuple e c d (by simpa using ra)⟩
 |.dict _,_,_,hl,_,_=>nomatch hl
theorem DenAll.reads{P:br}{w:bL}{H:Hp}{h:bN}(ok:HOk P w H h):∀(ds:List ba) {xs:List V} {us:List ah},be ds=true→DenAll H xs ds→Vals xs us→∃as,jx h us ds as
 |[],xs,us,_,q,r=>by
  simp only[DenAll]at q;subst q;cases r
  exact⟨_,.nil⟩
 |d::ds,xs,us,hl,q,r=>by
  have pG:d.canLay0=true∧be ds=true:=by simpa[be]using hl
  simp only[DenAll]at q;obtain⟨v,rs,rfl,h1,h2⟩:=q;cases r with
  |cons r1 r2=>
   obtain⟨as,ra⟩:=Den.reads ok d pG.1 h1 r1;obtain⟨bs,rb⟩:=DenAll.reads ok ds pG.2 h2 r2;exact⟨_,.cons ra rb⟩
end
section
variable {X:Cx}
def b6x:OpR X (bS .Is) (λx y H Q=>∃a b,x=.bl a∧y=.bl b∧Q (.bl (a==b)) H):=by
 intro pins s σ H x y v u Q I rx ry h;obtain⟨a,b,rfl,rfl,q⟩:=h;cases rx
 cases ry
 exact is_bool ⟨.bl _,H,I,rfl,q⟩
def tyD:ba→String
 |.int _=>"int"
 |.bool _=>"bool"
 |.list _=>"list"
 |.tuple _=>"tuple"
 |.none=>"NoneType"
 |.str _=>"str"
 |.dict _=>"dict"
def Den.ty{K:ag}{H:Hp}{v:V}:∀{d:ba},Den H v d→TyOf K H v (.type (tyD d))
 |.none,h=>by simp only[Den]at h;subst h;exact .non
 |.bool _,h=>by simp only[Den]at h;subst h;exact .bl _
 |.int _,h=>by simp only[Den]at h;subst h;exact .int _
 |.str _,h=>by simp only[Den]at h;subst h;exact .str _
 |.list _,h=>by simp only[Den]at h;obtain⟨a,xs,rfl,h1,_⟩:=h;exact .lst h1
 |.tuple _,h=>by simp only[Den]at h;obtain⟨a,xs,rfl,h1,_⟩:=h;exact .tup h1
 |.dict _,h=>by simp only[Den]at h;obtain⟨_,a,rfl,h1⟩:=h;exact .dK h1
def call_listK(K:ag)(h:X.K=K):CallR X (.type "list") (λxs H Q=>∃p ys,xs=[.ref p]∧(SqL K H p ys∨SqT K H p ys)∧∀l,H l=p4→Q (.ref l) (upd H l (.lst ys))):=by
 subst h;exact a0b
def Inv.sysBelow(I:Inv X pins σ H s):cR<s.heap.objs.size:=by
 have h:bP<s.heap.objs.size:=(I.mod.glob.keeps I.bk).lt;exact fE (by decide) h
end
def k6(h:H p=p4)(o:HO):Same H (upd H p o):=λb u q=>by rw[f7 (m7 q h)];exact q
def b1b(e:Same H H')(h:H p=p4)(o:HO):Same H (upd H' p o):=λb u q=>by rw[f7 (m7 q h)];exact e b u q
def PTs(X:Cx)(ifs:List Expr)(tt:TT):Prop:=
 ∀(pins:List (au×fD)) (s:ai) (σ:St) (H:Hp) (Q:Bool→Hp→Prop),Inv X pins σ H s→tt σ H Q→
  aC (aV X.prog X.w) X.A (forIn ifs true λc r=>if r=true then do let ok ←qR c X.env (cy c X.env);pure (dU ok) else pure (dU r)) (TP X pins σ Q) X.xe s
def c0g:TT:=λ_ H Q=>Q true H
def b3N:PTs X [] c0g:=λ_ _ σ H _ I h=>wpAny_tests_nil ⟨H,I,h⟩
def b3O(h:PT X c tt):PTs X [c] tt:=λpins s σ H Q I q=>wpAny_tests_one (h pins s σ H Q I q)
section
variable {prog:br}{w:bL}{A:bD}{R:vY→ai→Prop}{s:ai}
def a3m(I:Nat→ai→Prop)
  (turn:∀n s,I n s→aC (aV prog w) A (fP it) (λr s₁=>match r with
   |none=>R (.ok .next) s₁
   |some v=>aC (aV prog w) A (l_ target it v) (λ_ s₂=>aC (aV prog w) A (oJ target env v) (λ_ s₃=>
     aC (aV prog w) A (forIn ifs true λc r=>if r=true then do let ok ←qR c env (cy c env);pure (dU ok) else pure (dU r)) (λok oZ=>
     if ok=true then aC (aV prog w) A (cy elt env) (λx s₄=>
      aC (aV prog w) A (call (.builtin "list.append") [acc,x]) (λ_ s₅=>∃m,m<n∧I m s₅) (λ_ _=>False) s₄) (λ_ _=>False) oZ
     else ∃m,m<n∧I m oZ)
     (λ_ _=>False) s₃) (λ_ _=>False) s₂) (λ_ _=>False) s₁) (λ_ _=>False) s)
  (n:Nat) (h:I n s) :
  gF (aV prog w) A (.compLoop (.ListComp elt [⟨target,iter,ifs,0⟩] scope pos) 0 it acc env) R s:=by
 refine codeAny_loop rfl I (λn s hI=>?_) n h;show aC _ _ ((compTurn (.ListComp elt [⟨target,iter,ifs,0⟩] scope pos) 0 it acc env).onRaise (λx=>do noteFrame x env;theTreesLotGoes x)) _ _ s;refine wpAny_noted ?_;rw[compTurn_list];refine ab (wpAny_standAt (ab (cX (turn n s hI) (λr s₁ h₁=>?_) λ_ _ h'=>h'.elim)));cases r with
 |none=>exact ae h₁
 |some v=>
  refine ab (cX h₁ (λ_ s₂ h₂=>?_) λ_ _ h'=>h'.elim);refine ab (cX h₂ (λ_ s₃ h₃=>ab (cX h₃ (λok oZ nT=>?_) λ_ _ h'=>h'.elim)) λ_ _ h'=>h'.elim);cases ok with
  |false=>
   rw[aI aQ]at nT;exact ab (ae (ae ⟨rfl,nT⟩))
  |true=>
   rw[aB rfl]at nT;exact ab (ab (cX nT (λx s₄ h₄=>ab (cX h₄ (λ_ s₅ h₅=>ae (ae ⟨rfl,h₅⟩)) λ_ _ h'=>h'.elim)) λ_ _ h'=>h'.elim))
end
def a4x(wi:TI)(g:TG)(tt:TT)(te:TE)(τ:St→St):TE:=λσ H Q=>wi σ H λJ H1=>∀D,H1 D=p4→∃W:Nat→Nat→List V→St→Hp→Prop,(∃m,W 0 m [] (τ σ) (upd H1 D (.lst [])))∧
 ∀i m ys σ' H',W i m ys σ' H'→(J.stop i H'∧Q (.ref D) H')∨
  (J.go i H'∧∃(N:V→St→Hp→Prop) (NO:St→Hp→Prop),(∀y σ3 H4,N y σ3 H4→H4 D=el (.lst ys)∧ys.length<aS∧∃m',m'<m∧W (i+1) m' (ys++[y]) σ3 (upd H4 D (.lst (ys++[y]))))∧
   (∀σ3 H4,NO σ3 H4→∃m',m'<m∧W (i+1) m' ys σ3 H4)∧∀x H2,J.yld i H' x H2→g x σ' H2 λσ3 H3=>tt σ3 H3 λb H4=>if b=true then te σ3 H4 λy H5=>N y σ3 H5 else NO σ3 H4)
section
variable {X:Cx}{N:List bC}{scope:fZ}{cl:List (bC×au)}{τ:St→St}{elt tg iter:Expr}{ifs:List Expr}{pos:ff}{wi:TI}{g:TG}{tt:TT}{te:TE}
def a3w(hc:X.calm=true)(hi:PI X tg iter wi)(C:CompIn X N scope cl τ)(hg:∀Cl s H fp,PG (L5 X N scope cl Cl s H fp) tg g)(ht:∀Cl s H fp,PTs (L5 X N scope cl Cl s H fp) ifs tt)(he:∀Cl s H fp,PE (L5 X N scope cl Cl s H fp) elt te)
  (I:Inv X pins σ H s) (h:a4x wi g tt te τ σ H R) {PP:ah→au→vY→ai→Prop}
  (Eh:∀D Cl Hn s' o m,Inv X pins σ Hn s'→R (.ref D) Hn→Z8 X pins Hn Cl→s'.heap.get? Cl=el o→(∀v,o.data≠.cell v)→(∀h':bN,h'.get? Cl=el o→h'.Ns Cl m)→PP (.ref D) Cl (.ok .next) s') :
  aC (aV X.prog X.w) X.A (cy iter X.env) (λx s₁=>aC (aV X.prog X.w) X.A (qO x) (λit s₂=>aC (aV X.prog X.w) X.A (newList []) (λacc s₃=>
   aC (aV X.prog X.w) X.A (newFunctionEnv scope X.env.globals cl [] X.env.qual p4 .none (el X.env)) (λvW s₄=>
    gF (aV X.prog X.w) X.A (.compStart (.ListComp elt [⟨tg,iter,ifs,0⟩] scope pos) 0 it acc {vW with scope:=lN scope X.env}) (PP acc vW.locals) s₄) X.xe s₃) X.xe s₂) X.xe s₁) X.xe s:=by
 refine thn (hi pins s σ H _ I h) λx s1 h1=>thn h1 λxJ s2 h2=>?_
 obtain⟨it,fp,tn,J,H2,rfl,I2,T,qN,f2,q⟩:=h2;refine dg (wpAny_newFunctionEnv C.ncell (by intro y hy;simp at hy) (λh₁ nK mn=>?_) C.kind)
 dsimp only at nK mn ⊢
 generalize yX:s2.heap.push {cls:=.type "list",dict:=p4,data:=.seq ([]:List ah).toArray}=G2 at nK mn ⊢;have hC:G2.objs.size=s2.heap.objs.size+1:=by rw[←yX,cL]
 have AS:s2.heap.objs.size≠G2.objs.size:=by rw[hC];exact a_ (kh _)
 have tJ:s2.heap.objs.size≤G2.objs.size:=by rw[hC];exact eU _
 have below:∀b,b<s2.heap.objs.size→b≠G2.objs.size:=λb hb=>by rw[hC];exact a_ (f_ hb)
 have old:∀b o,s2.heap.get? b=el o→h₁.get? b=el o:=λb o e=>mn.extBut b o (below b (aG e)) (af _ (yX▸af _ e))
 have ll:h₁.get? s2.heap.objs.size=el {cls:=.type "list",dict:=p4,data:=.seq ([]:List ah).toArray}:=mn.extBut _ _ AS (af _ (yX▸aE _ rfl));have zc:∀b∈fp,b<s2.heap.objs.size:=λb hb=>by
  obtain⟨o,e,_⟩:=T.obj 0 _ qN b hb;exact aG e
 have AR:H2 s2.heap.objs.size=p4:=I2.hok.fresh (aD _);have Et:H2 G2.objs.size=p4:=I2.hok.fresh tJ;generalize wV:G2.objs.size=Cl at *;have BK:∀b∈frs X.stack,b<s2.heap.objs.size:=λb hb=>by
  rcases az.mp (I2.stkSub b hb) with e|hb
  ·rw[e];exact I2.lt
  ·obtain⟨_,o,ho,_⟩:=I2.funs.mem hb;exact aG ho
 have xA:(L5 X N scope cl Cl s2 H2 fp).Ok:=by
  refine⟨I2.ok.mod,C.kind,I2.ok.glob,I2.ok.blt,tJ,λx y c e1 e2=>I2.ok.inj x y c (C.sub x c e1) (C.sub y c e2),λx hx=>?_,λx c hx _=>(nomatch hx),λz=>I2.ok.hd z,I2.ok.frames,.inl rfl,λb hb=>⟨below b (zc b hb),λx c e=>(f2 b hb).2.2.2.2.1 x c (C.sub x c e)⟩,
   I2.bs,cw I2.ok.bsz I2.sz,λb o e hb=>?_,λb hb z=>?_,I2.stack,I2.stkFree,I2.tabs⟩
  ·obtain⟨y,hy,rfl,ey⟩:=a0c C.ncell hx;exact C.has y hy ey
  ·rcases (f2 b hb).2.2.2.1 with z|z
   ·exact I2.ok.noex b o e z
   ·exact absurd (bw (aG e) (cw I2.ok.bsz z)) (dt _)
  ·rcases az.mp (I2.stkSub b z) with e|e
   ·exact (f2 b hb).2.1 e
   ·exact (f2 b hb).2.2.1 e
 have I4:Inv (L5 X N scope cl Cl s2 H2 fp) pins (τ σ) (upd H2 s2.heap.objs.size (.lst [])) {s2 with heap:=h₁,toks:=s2.toks+([]:List (bC×ah)).length}:=by
  have lc:=I2.loc;obtain⟨m,hn,hl⟩:=lc;refine⟨xA,rfl,I2.bare,Un.laid old (aD _) AR,⟨_,nK,λi x v e1 e2 e3=>?_⟩,λx c e=>?_,?_,λx c e=>?_,λp hp=>?_,I2.hok.laid old (aD _) ⟨bI _,[],_,.nil,ll⟩,C.tlen σ⟩
  ·obtain⟨j,j1,j2,j3,j4⟩:=C.tval σ i x v e1 e2;have kx:(lN scope X.env).names.lookup x=el .cell∨(lN scope X.env).names.lookup x=el .free:=a4v j3;obtain⟨y,hy,EC,ey⟩:=a0c C.ncell kx;obtain⟨c,tE⟩:=C.has y hy ey;rw[EC]at tE;have yM:=C.sub x c tE;have hv:Vis X.env.scope x:=.inr j4;obtain⟨u,ru,lk⟩:=hl j x v j1 j2 hv;refine⟨u,ru,?_⟩;rcases lk with⟨k,_⟩|⟨k,c',e',z⟩
   ·rcases j4 with j4|j4
    ·rw[j4]at k;cases k
    ·rw[j4]at k;cases k
   ·rw[yM]at e';cases e'
    obtain⟨o,ho,hd⟩:=z;exact .inr ⟨kx,c,tE,⟨o,old c o ho,hd⟩⟩
  ·obtain⟨v,o,ho,hd⟩:=I2.cell x c (C.sub x c e);exact⟨v,o,old c o ho,hd⟩
  ·show upd H2 s2.heap.objs.size (.lst []) Cl=p4;rw[f7 (dN AS)];exact Et
  ·have n:=I2.freeC x c (C.sub x c e);obtain⟨v,o,ho,hd⟩:=I2.cell x c (C.sub x c e);rw[f7 (a_ (aG ho))];exact n
  ·obtain⟨e,n,ne,nf,d⟩:=I2.pin p hp;refine⟨old _ _ e,by rw[f7 (a_ (aG e))];exact n,below _ (aG e),λz=>?_,d⟩;rcases az.mp (I2.stkSub p.1 z) with e'|e'
   ·exact ne e'
   ·exact nf e'
 have nG:∀{H':Hp},(∀b∈fp,H' b=p4)→∀b∈fp,Z8 (L5 X N scope cl Cl s2 H2 fp) pins H' b:=λhn b hb=>
  ⟨hn b hb,below b (zc b hb),xA.exfs b hb,.inl hb,(xA.exf b hb).2,(f2 b hb).2.2.2.2.2⟩
 obtain⟨W,⟨m0,w0⟩,turn⟩:=q s2.heap.objs.size AR;have loop:∀s₃:ai,s₃={s2 with heap:=h₁,toks:=s2.toks+([]:List (bC×ah)).length}→
   gF (aV X.prog X.w) X.A (.compLoop (.ListComp elt [⟨tg,iter,ifs,0⟩] scope pos) 0 (.ref it) (.ref s2.heap.objs.size) (compEnvC scope cl Cl X.env)) (PP (.ref s2.heap.objs.size) Cl) s₃:=by
  rintro s₃ rfl;refine a3m (λn s'=>∃i ys σ' H',Inv (L5 X N scope cl Cl s2 H2 fp) pins σ' H' s'∧tn i s'.heap∧(∀b∈fp,H' b=p4)∧W i n ys σ' H') ?_ m0
   ⟨0,[],τ σ,_,I4,T.keep _ _ _ qN λb hb o e=>old b o e,λb hb=>by rw[f7 (a_ (zc b hb))];exact (f2 b hb).1,w0⟩
  rintro n s3 ⟨i,ys,σ3,H3,I3,uE,vN,w3⟩;rcases turn i n ys σ3 H3 w3 with⟨stop,qn⟩|⟨go,NN,NO,hN,hO,step⟩
  ·refine thn (T.done (L5 X N scope cl Cl s2 H2 fp) rfl rfl rfl hc i pins s3 σ3 H3 _ I3 (nG vN) uE stop) λr s4 ⟨hr,I5⟩=>?_
   subst hr;have lc:=I5.loc;obtain⟨m,hn,_⟩:=lc;obtain⟨o,es,ep,ho,hd,jq⟩:=hn;have J5:Inv X pins σ H3 s4:=I2.call' (ch:=fp) I5.os I5.base I5.hok I5.bare λb hb=>⟨(f2 b hb).2.2.2.1,(f2 b hb).2.1,(f2 b hb).2.2.2.2.1,(f2 b hb).2.2.2.2.2⟩
   refine Eh _ Cl H3 s4 o m J5 qn (I2.fpOk tJ I5.free) ho (λv z=>by rw[hd]at z;cases z) λh' e=>⟨o,es,ep,e,hd,jq⟩
  ·refine thn (T.item (L5 X N scope cl Cl s2 H2 fp) rfl rfl rfl hc i pins s3 σ3 H3 _ I3 (nG vN) uE go) λr s4 ⟨u,hr,h4⟩=>?_
   subst hr;refine thn h4 λ_ s5 ⟨x,H5,I5,r5,y5,qM,zb⟩=>?_
   have zo:=I5.pinned (nG zb) (T.obj _ _ qM);refine thn (hg Cl s2 H2 fp _ s5 σ3 H5 x u _ zo r5 (step x H5 y5)) λ_ s6 ⟨σ6,H6,I6,q6⟩=>?_
   refine thn (ht Cl s2 H2 fp _ s6 σ6 H6 _ I6 q6) λok BN ⟨Fl,xb,wo⟩=>?_
   cases ok with
   |false=>
    rw[aI aQ]at wo ⊢;obtain⟨m',hm,w7⟩:=hO _ _ wo;refine⟨m',hm,i+1,ys,σ6,_,xb.unpinned,T.keep _ _ _ qM λb hb o e=>(xb.pin (b,o) (ax _ (ax _ (C1 hb e)))).1,λb hb=>?_,w7⟩;obtain⟨o,e,d⟩:=T.obj _ _ qM b hb;exact (xb.pin (b,o) (ax _ (ax _ (C1 hb e)))).2.1
   |true=>
    rw[aB rfl]at wo ⊢;refine thn (he Cl s2 H2 fp _ BN σ6 Fl _ xb wo) λyv s7 ⟨y,H7,I7,r7,q7⟩=>?_
    obtain⟨BW,BV,m',hm,w7⟩:=hN _ _ _ q7;refine thn (a0I (X:=L5 X N scope cl Cl s2 H2 fp) _ s7 σ6 H7 (.ref s2.heap.objs.size) [y] (.ref s2.heap.objs.size) [yv] (λ_ H8=>H8=upd H7 s2.heap.objs.size (.lst (ys++[y]))) I7 rfl (.cons r7 .nil)
     ⟨_,ys,y,rfl,rfl,BW,BV,rfl⟩) λ_ s8 ⟨_,H8,I8,_,e8⟩=>?_
    subst e8;refine⟨m',hm,i+1,ys++[y],σ6,_,I8.unpinned,T.keep _ _ _ qM λb hb o e=>(I8.pin (b,o) (ax _ (ax _ (C1 hb e)))).1,λb hb=>?_,w7⟩;obtain⟨o,e,d⟩:=T.obj _ _ qM b hb;exact (I8.pin (b,o) (ax _ (ax _ (C1 hb e)))).2.1
 have BL:tn 0 h₁:=T.keep _ _ _ qN λb hb o e=>old b o e
 exact codeAny_compStart_list (loop _ rfl) (T.self X.A 0 {s2 with heap:=h₁,toks:=s2.toks+([]:List (bC×ah)).length} _ _ BL (loop _ rfl))
end
def x6(env:n_):List (bC×iP)→List (bC×au)→List (bC×au)
 |[],cs=>cs
 | (n,k)::r,cs=>x6 env r (if k==.free then (n,(env.cells.lookup n).getD 0)::cs else cs)
theorem T1{env:n_}:∀(names:List (bC×iP)) (cs:List (bC×au)),(∀y∈names,y.2=.free→∃c,env.cells.lookup y.1=el c)→
  (forIn names cs λ(x:bC×iP) (cs:List (bC×au))=>(if x.2==.free then do let a ←cellOf env x.1;pure (dU ((x.1,a)::cs)) else pure (dU cs):Sem (ForInStep (List (bC×au)))))=pure (x6 env names cs)
 |[],cs,_=>by rw[jB];rfl
 | (n,k)::r,cs,h=>by
  rw[iX]
  dsimp only
  by_cases hk:(k==fq)=true
  ·obtain⟨c,hc⟩:=h (n,k) aj (by simpa using hk);rw[aB hk];have e:cellOf env n=pure c:=by unfold cellOf;rw[hc]
   rw[e];have:=T1 r ((n,c)::cs) λy hy=>h y (aq _ hy)
   have e2:x6 env ((n,k)::r) cs=x6 env r ((n,c)::cs):=by
    show x6 env r (if k==.free then (n,(env.cells.lookup n).getD 0)::cs else cs)=_;rw[aB hk,hc];rfl
   rw[e2,←this];simp only[pure_bind]
  ·rw[aI hk];have:=T1 r cs λy hy=>h y (aq _ hy)
   have e2:x6 env ((n,k)::r) cs=x6 env r cs:=by
    show x6 env r (if k==.free then (n,(env.cells.lookup n).getD 0)::cs else cs)=_;rw[aI hk]
   rw[e2,←this];simp only[pure_bind]
def a6M{scope:fZ}{env:n_}(h:∀y∈scope.names,y.2=.free→∃c,env.cells.lookup y.1=el c):oI scope env=pure (x6 env scope.names []):=by
 have:=T1 scope.names [] h;rw[←this];unfold oI;simp
theorem Y5{env:n_}:∀(names:List (bC×iP)) (cs:List (bC×au)),(∀y∈names,y.2=.free→∃c,env.cells.lookup y.1=el c)→(∀p∈cs,env.cells.lookup p.1=el p.2)→
  (∀p∈x6 env names cs,env.cells.lookup p.1=el p.2)∧(∀p∈cs,p∈x6 env names cs)∧∀y∈names,y.2=.free→∃c,(y.1,c)∈x6 env names cs
 |[],cs,_,hc=>⟨hc,λ_ h=>h,λy hy=>(nomatch hy)⟩
 | (n,k)::r,cs,h,hc=>by
  by_cases hk:(k==fq)=true
  ·obtain⟨c,e⟩:=h (n,k) aj (by simpa using hk);have e2:x6 env ((n,k)::r) cs=x6 env r ((n,c)::cs):=by
    show x6 env r (if k==.free then (n,(env.cells.lookup n).getD 0)::cs else cs)=_;rw[aB hk,e];rfl
   rw[e2];obtain⟨a,b,d⟩:=Y5 r ((n,c)::cs) (λy hy=>h y (aq _ hy)) λp hp=>by
    rcases az.mp hp with z|z
    ·rw[z];exact e
    ·exact hc p z
   refine⟨a,λp hp=>b p (aq _ hp),λy hy hf=>?_⟩;rcases az.mp hy with z|z
   ·rw[z];exact⟨c,b _ aj⟩
   ·exact d y z hf
  ·have e2:x6 env ((n,k)::r) cs=x6 env r cs:=by
    show x6 env r (if k==.free then (n,(env.cells.lookup n).getD 0)::cs else cs)=_;rw[aI hk]
   rw[e2];obtain⟨a,b,d⟩:=Y5 r cs (λy hy=>h y (aq _ hy)) hc;refine⟨a,b,λy hy hf=>?_⟩;rcases az.mp hy with z|z
   ·rw[z]at hf;exact absurd (by simpa using hf) hk
   ·exact d y z hf
theorem X2:∀{l:List (bC×au)},(x,c)∈l→∃c',l.lookup x=el c'
 |[],h=>nomatch h
 | (y,d)::l,h=>by
  rw[fN];cases e:x==y with
  |true=>exact⟨d,rfl⟩
  |false=>
   rcases az.mp h with z|z
   ·cases z;simp at e
   ·exact X2 z
def U7(scope:fZ)(okind:bC→Option iP)(ys:List bC)(js:List Nat)(XN:List bC):Bool:=
 scope.kind==.function&&scope.names.all (λy=>y.2 !=.cell&&(y.2 !=.local||scope.names.lookup y.1==el .local)&&(y.2 !=.free||(okind y.1==el .cell||okind y.1==el .free))) &&
 ys.length==js.length&&(ys.zip js).all λp=>XN[p.2]?==el p.1&&scope.names.lookup p.1==el .free&&(okind p.1==el .cell||okind p.1==el .free)
def a0K(tn:List bC)(js:List Nat):St→St:=λσ=>aO tn.length p4++js.map λj=>(σ[j]?).getD p4
def a3x{X:Cx}{scope:fZ}(ok:X.Ok)(h:U7 scope X.env.kindOf ys js X.N=true):CompIn X (tn++ys) scope (x6 X.env scope.names []) (a0K tn js):=by
 unfold U7 at h;rw[av,av,av,bj,bj]at h;obtain⟨⟨⟨hk,ha⟩,hl⟩,hz⟩:=h;have ma:∀y∈scope.names,y.2≠.cell:=λy hy e=>by
  have:=ha y hy;rw[e]at this;simp at this
 have yp:∀y∈scope.names,y.2=.local→scope.names.lookup y.1=el .local:=λy hy e=>by
  have:=ha y hy;rw[e]at this;simpa using this
 have mS:∀y∈scope.names,y.2=.free→∃c,X.env.cells.lookup y.1=el c:=λy hy e=>by
  have:=ha y hy;rw[e]at this;refine ok.has y.1 ?_;simpa using this
 obtain⟨a,_,d⟩:=Y5 scope.names [] mS λp hp=>(nomatch hp)
 refine⟨a6M mS,by simpa using hk,ma,yp,λx c e=>a _ (bZ e),λy hy e=>?_,λσ=>?_,λσ i x v h1 h2=>?_⟩
 ·obtain⟨c,hc⟩:=d y hy e;exact X2 hc
 ·have:ys.length=js.length:=by simpa using hl
  unfold a0K;simp[this]
 ·unfold a0K at h2;by_cases hi:i<tn.length
  ·rw[gG (by simpa using hi),sC]at h2
   split at h2<;>cases h2
  ·rw[eZ (by simpa using hi),fW,aU]at h2;rw[eZ (by lia)]at h1;cases hj:js[i-tn.length]? with
   |none=>rw[hj]at h2;cases h2
   |some j=>
    rw[hj]at h2;have h3:(σ[j]?).getD p4=el v:=by simpa using h2
    have ko:(x,j)∈ys.zip js:=by
     have hlen:=(aP.mp h1).1;have Ap:=(aP.mp hj).1;rw[bM];refine⟨i-tn.length,?_⟩;rw[jE];exact⟨h1,hj⟩
    have:=hz _ ko;rw[av,av,gX]at this;obtain⟨⟨e1,e2⟩,e3⟩:=this;refine⟨j,by simpa using e1,?_,by simpa using e2,by simpa using e3⟩;cases q:σ[j]? with
    |none=>rw[q]at h3;cases h3
    |some o=>rw[q]at h3;have:o=el v:=h3;rw[this]
section
variable {X:Cx}{tn ys:List bC}{js:List Nat}{scope:fZ}{elt tg iter:Expr}{ifs:List Expr}{pos:ff}{wi:TI}{g:TG}{tt:TT}{te:TE}
def b1c(hc:X.calm=true)(hi:PI X tg iter wi)(C:U7 scope X.env.kindOf ys js X.N=true)(hg:∀cl Cl s H fp,PG (L5 X (tn++ys) scope cl Cl s H fp) tg g)(ht:∀cl Cl s H fp,PTs (L5 X (tn++ys) scope cl Cl s H fp) ifs tt)(he:∀cl Cl s H fp,PE (L5 X (tn++ys) scope cl Cl s H fp) elt te)
  (hs:∀x,eS iter X.env x=pure x:=by intro _;rfl):PE X (.ListComp elt [⟨tg,iter,ifs,0⟩] scope pos) (a4x wi g tt te (a0K tn js)):=by
 intro pins s σ H Q I h;have C:=a3x (tn:=tn) I.ok C;rw[eval_ListComp];refine xq (use:=p4) rfl hs C.clos C.kind C.names (a3w hc hi C (hg _) (ht _) (he _) I h (PP:=λacc Cl=>compPost (aV X.prog X.w) X.A X.xe p4 (EP X pins σ Q) acc Cl) ?_);intro D Cl Hn s' o m I' hq F ho hd qm;refine⟨m,qm _ ho,λh' oR=>⟨.ref D,Hn,?_,rfl,hq⟩⟩;exact I'.turned (t':=s'.toks) (λb ob hb e=>(oR.2 b hb).trans e) F.1 F.2.1 F.2.2.2.1 F.2.2.2.2.1 F.2.2.2.2.2
def a5t{py mK:ff}(hc:X.calm=true)(hN:X.N.Nodup)(hy:X.N[i]?=el y)(hx:Loc X.env.scope y)(hi:PI X tg iter wi)(C:U7 scope X.env.kindOf ys js X.N=true)
  (hg:∀cl Cl s H fp,PG (L5 X (tn++ys) scope cl Cl s H fp) tg g) (ht:∀cl Cl s H fp,PTs (L5 X (tn++ys) scope cl Cl s H fp) ifs tt) (he:∀cl Cl s H fp,PE (L5 X (tn++ys) scope cl Cl s H fp) elt te)
  (oy:fI (.ListComp elt [⟨tg,iter,ifs,0⟩] scope pos) (el (.Name y py)) mK.line X.env=pure true:=by rfl) (hs:∀x,eS iter X.env x=pure x:=by intro _;rfl)
  (hf:X.fn y=true∨X.env.scope.names.lookup y=el .local:=by first|exact .inl rfl|exact .inr rfl|assumption) :
  PS X (.Assign [.Name y py] (.ListComp elt [⟨tg,iter,ifs,0⟩] scope pos) mK) (b6d (a4x wi g tt te (a0K tn js)) (S9 i)):=by
 intro pins s σ H D I h;have C:=a3x (tn:=tn) I.ok C;rw[exec_Assign_Name_used _ _ _ _ oy];refine ab (wpAny_standAt (ab ?_));show aC _ X.A (do let _ ←comprehension (.ListComp elt [⟨tg,iter,ifs,0⟩] scope pos) scope X.env _ (newList []) false (cy iter X.env) (el (oJ (.Name y py) X.env))) _ _ s;refine ab (cX (xq (use:=el (oJ (.Name y py) X.env)) (Q:=λ_ s'=>SP X pins D .next s') rfl hs C.clos C.kind C.names
  (a3w hc hi C (hg _) (ht _) (he _) I h (PP:=λacc Cl=>compPost (aV X.prog X.w) X.A X.xe (el (oJ (.Name y py) X.env)) (λ_ s'=>SP X pins D .next s') acc Cl) ?_)) (λ_ s' hq=>ae (ae hq)) λ_ _ e=>e)
 intro Dl Cl Hn s' o m I' hq F ho hd qm;have I1:=I'.pinned (fp:=[Cl]) (λb hb=>by rw[ao.mp hb];exact F) (λb hb=>by rw[ao.mp hb];exact⟨o,ho,hd⟩);show aC _ X.A (oJ (.Name y py) X.env (.ref Dl)) _ _ _;refine wpAny_assign_Name (a1X I1 hN hy hx (v:=.ref Dl) rfl (λs2 I2=>?_) hf);have e2:=(I2.pin (Cl,o) (ax _ (ax _ (C1 (ao.mpr rfl) ho)))).1;refine⟨m,qm _ e2,λh' oR=>⟨σ.set i (el (.ref Dl)),Hn,?_,hq⟩⟩;exact I2.unpinned.turned (t':=s2.toks) (λb ob hb e=>(oR.2 b hb).trans e) F.1 F.2.1 F.2.2.2.1 F.2.2.2.2.1 F.2.2.2.2.2
end
end L2
namespace VS
open PySem PySem.Spec L2
abbrev D:=ba
mutual
def A5:D→Bool
 |.int _=>true
 |.tuple ds=>o8 ds
 |.none|.bool _|.str _|.list _|.dict _=>false
def o8:List D→Bool
 |[]=>true
 |d::ds=>A5 d&&o8 ds
end
mutual
def hashD:D→Int
 |.int i=>jK i
 |.tuple ds=>reduceHash (er (A0 ds))
 |.none|.bool _|.str _|.list _|.dict _=>0
def A0:List D→List Int
 |[]=>[]
 |d::ds=>hashD d::A0 ds
end
mutual
def p8:D→Nat
 |.int _=>1
 |.tuple ds=>N4 ds+1
 |.none|.bool _|.str _|.list _|.dict _=>0
def N4:List D→Nat
 |[]=>0
 |d::ds=>p8 d+N4 ds
end
mutual
theorem T2:∀d:D,A5 d=true→d.canLay0=true
 |.int _,_=>by simp only[eN]
 |.tuple ds,h=>by
  simp only[A5]at h;simp only[eN];exact a1h ds h
 |.none,h|.bool _,h|.str _,h|.list _,h|.dict _,h=>by simp only[A5]at h;cases h
theorem a1h:∀ds:List D,o8 ds=true→be ds=true
 |[],_=>by simp only[be]
 |d::ds,h=>by
  simp only[o8,av]at h;simp only[be,av];exact⟨T2 d h.1,a1h ds h.2⟩
end
mutual
theorem A1:∀a b:D,A5 a=true→A5 b=true→(aJ a b=true↔a=b)
 |.int i,b,_,hb=>by
  cases b with
  |int j=>
   show (i==j)=true↔_;rw[ku];exact⟨λe=>by rw[e],λe=>by injection e⟩
  |tuple ds=>simp[aJ]
  |_=>simp only[A5]at hb;cases hb
 |.tuple xs,b,ha,hb=>by
  cases b with
  |int j=>simp[aJ]
  |tuple ys=>
   simp only[A5]at ha hb;simp only[aJ];rw[a1i xs ys ha hb];exact⟨λe=>by rw[e],λe=>by injection e⟩
  |_=>simp only[A5]at hb;cases hb
 |.none,b,h,_|.bool _,b,h,_|.str _,b,h,_|.list _,b,h,_|.dict _,b,h,_=>by simp only[A5]at h;cases h
theorem a1i:∀a b:List D,o8 a=true→o8 b=true→(de a b=true↔a=b)
 |[],[],_,_=>by simp[de]
 |[],_::_,_,_=>by simp[de]
 |_::_,[],_,_=>by simp[de]
 |x::xs,y::ys,ha,hb=>by
  simp only[o8,av]at ha hb;simp only[de,av];rw[A1 x y ha.1 hb.1,a1i xs ys ha.2 hb.2]
  constructor
  ·rintro⟨rfl,rfl⟩;rfl
  ·intro e;injection e with e1 e2;exact⟨e1,e2⟩
end
mutual
theorem a2a{h h':bN}{es ep}(ho:h.get? d=el o)(hd:o.data=.dict es ep)(hs:cE d h h'):∀(k:D) {v:ah} {as:List au},A5 k=true→Reads h v k as→Reads h' v k as
 |.int _,_,_,_,r=>by cases r;exact .int _ _
 |.tuple ds,_,_,hk,r=>by
  simp only[A5]at hk;cases r with
  |@tuple a oo vs n _ as c1 c2 c3 c4=>
   have gj:a≠d:=by
    rintro rfl;obtain rfl:oo=o:=aK (c1.symm.trans ho);rw[hd]at c3;exact nomatch c3
   exact .tuple ((hs.2 a gj).trans c1) c2 c3 (X3 ho hd hs ds hk c4)
 |.none,_,_,h,_|.bool _,_,_,h,_|.str _,_,_,h,_|.list _,_,_,h,_|.dict _,_,_,h,_=>by simp only[A5]at h;cases h
theorem X3{h h':bN}{es ep}(ho:h.get? d=el o)(hd:o.data=.dict es ep)(hs:cE d h h'):∀(ks:List D) {vs:List ah} {as:List au},o8 ks=true→jx h vs ks as→jx h' vs ks as
 |[],_,_,_,r=>by cases r;exact .nil
 |k::ks,_,_,hk,r=>by
  simp only[o8,av]at hk;cases r with
  |cons r1 r2=>exact .cons (a2a ho hd hs k hk.1 r1) (X3 ho hd hs ks hk.2 r2)
end
section
variable {prog:br}{w:bL}{E:ah→ai→Prop}
mutual
theorem a2b:∀(k:D) {A:bD} {s:ai} {v:ah} {as:List au} {Q:Int→ai→Prop},A5 k=true→A.units+k.depth<cV→Reads s.heap v k as→Q (hashD k) {s with toks:=s.toks+p8 k}→aC (aV prog w) A (pyHash v) Q E s
 |.int i,A,s,v,as,Q,_,_,r,h=>by
  cases r
  simp only[hashD,p8]at h;exact wpAny_pyHash_int h
 |.tuple ds,A,s,v,as,Q,hk,hu,r,h=>by
  simp only[A5]at hk;simp only[gg]at hu;simp only[hashD,p8]at h;cases r with
  |@tuple a o items n _ as ho hc hd hi=>
   have hT:s.TypeIs (.ref a) "tuple":=⟨o,ho,hc⟩;unfold pyHash
   first|unfold pyHashByItsType|skip
   first|refine ab (wpAny_cRoomFor_or (.inr (by lia)) ?_)|skip
   refine ab (dy hT kK.lookup ?_);show aC _ _ (if (el (zh "tuple.__hash__")==el bz)=true then _ else _) Q E s;rw[aI (by rw[beq_builtin_none];exact aQ)];refine ab (dy hT kK.lookup ?_);show aC _ _ (callSpecialIfBoundUnlessNone? (.ref a) "__hash__" _ >>= _) Q E s;refine ab (wpAny_callSpecialIfBoundUnlessNone?_slot hT kK (bB kK hT F.entry_tuple_hash ?_ (F.args_tuple_hash_1 _)));show aC _ _ (Builtin.Tuple.tupleItemsOf (.ref a) >>= _) _ _ s;refine ab (wpAny_tupleItemsOf ho hd ?_);refine ab ?_;rw[←mz];refine a3y ds (A:=A.in1) (acc:=#[]) hk (by show A.units+1+_<_;lia) hi ?_;show aC _ _ (retInt (er _)) _ _ _;simp only[Array.toList_append,cA];refine sF ?_;show aC _ _ (if (decide (-(2:Int)^63≤er (A0 ds))&&decide (er (A0 ds)<2^63))=true then _ else _) Q E _;unfold reduceHash at h;by_cases hr:(decide (-(2:Int)^63≤er (A0 ds))&&decide (er (A0 ds)<2^63))=true
   ·rw[aB hr];rw[aB hr]at h;exact ae (by simpa[mh]using h)
   ·rw[aI hr];rw[aI hr]at h;exact ab (dW (ae (by simpa[mh]using h)))
 |.none,_,_,_,_,_,h,_,_,_|.bool _,_,_,_,_,_,h,_,_,_|.str _,_,_,_,_,_,h,_,_,_|.list _,_,_,_,_,_,h,_,_,_|.dict _,_,_,_,_,_,h,_,_,_=>by simp only[A5]at h;cases h
theorem a3y:∀(ks:List D) {A:bD} {s:ai} {vs:List ah} {as:List au} {acc:Array Int} {Q:Array Int→ai→Prop},o8 ks=true→A.units+dA ks<cV→jx s.heap vs ks as→Q (acc++(A0 ks).toArray) {s with toks:=s.toks+N4 ks}→
  aC (aV prog w) A (forIn vs acc λx r=>do let r1 ←pyHash x;pure kC;pure (dU (r.push r1))) Q E s
 |[],A,s,vs,as,acc,Q,_,_,r,h=>by
  cases r
  rw[jB];exact ae (by simpa[A0,N4]using h)
 |k::ks,A,s,vs,as,acc,Q,hk,hu,r,h=>by
  simp only[o8,av]at hk;simp only[dA]at hu;cases r with
  |cons r1 r2=>
   rw[iX];refine ab (ab (a2b k hk.1 (by lia) r1 ?_));refine ab (ae (ae ?_));refine a3y ks (s:={s with toks:=s.toks+p8 k}) hk.2 (by lia) r2 ?_;simp only[A0,N4]at h;have e:(acc.push (hashD k))++(A0 ks).toArray=acc++(hashD k::A0 ks).toArray:=by simp
   rw[e];simpa[mh]using h
end
end
section
variable {prog:br}{w:bL}{A:bD}{E:ah→ai→Prop}
mutual
theorem a3z:∀(k:D) (n:Nat) {s:ai} {v:ah} {as:List au} {Q:Bool→ai→Prop},A5 k=true→k.depth≤n→Reads s.heap v k as→Q true s→aC (aV prog w) A (eqIsQuiet n v) Q E s
 |.int i,n,s,v,as,Q,_,_,r,h=>by
  cases r
  rw[eqIsQuiet_byValue n (v:=.int i _) rfl];exact ae h
 |.tuple ds,0,s,v,as,Q,_,hn,_,_=>by simp only[gg]at hn;lia
 |.tuple ds,n+1,s,v,as,Q,hk,hn,r,h=>by
  simp only[A5]at hk;simp only[gg]at hn;cases r with
  |@tuple a o items m _ as ho hc hd hi=>
   have hT:s.TypeIs (.ref a) "tuple":=⟨o,ho,hc⟩;unfold eqIsQuiet;refine ab (dy hT F.slot_tuple_eq.lookup ?_);show aC _ _ (isInstance (.ref a) (.type "tuple") >>= _) _ _ s;refine ab (fu hT isSubtype_tuple_tuple ?_);simp only[iK,cg,dX];refine ab (dI ho hd ?_);refine ab ?_;show aC _ _ (forIn items _ _) _ _ s;rw[←mz];refine wpAny_forIn_list _ (λrest r s'=>r.1=p4∧s'=s∧∃ks bs,o8 ks=true∧dA ks≤n∧(∀k∈ks,k∈ds)∧jx s.heap rest ks bs) _ ?_ ?_ _ _ ⟨rfl,rfl,ds,as,hk,by lia,λk hk=>hk,hi⟩
   ·rintro v rest r s' ⟨hr,rfl,ks,bs,k1,k2,k3,k4⟩;cases k4 with
    |@cons _ _ d' iw _ _ r1 r2=>
     simp only[o8,av]at k1;simp only[dA]at k2;refine ab (a3A ds n hk (by lia) d' (k3 d' aj) r1 ?_);simp only[iK,cg,dX];exact ae ⟨rfl,rfl,_,_,k1.2,by lia,λk hk=>k3 k (aq _ hk),r2⟩
   ·rintro⟨r1,r2⟩ s' ⟨hr,rfl,_⟩;simp only at hr;subst hr;exact ae h
 |.none,_,_,_,_,_,h,_,_,_|.bool _,_,_,_,_,_,h,_,_,_|.str _,_,_,_,_,_,h,_,_,_|.list _,_,_,_,_,_,h,_,_,_|.dict _,_,_,_,_,_,h,_,_,_=>by simp only[A5]at h;cases h
theorem a3A:∀(ds:List D) (n:Nat),o8 ds=true→dA ds≤n→∀k∈ds,∀{s:ai} {v:ah} {as:List au} {Q:Bool→ai→Prop},Reads s.heap v k as→Q true s→aC (aV prog w) A (eqIsQuiet n v) Q E s
 |[],n,_,_,k,hk,s,v,as,Q,r,h=>nomatch hk
 |d::ds,n,oE,hn,k,hk,s,v,as,Q,r,h=>by
  simp only[o8,av]at oE;simp only[dA]at hn;rcases az.mp hk with e|hk
  ·rw[e]at r;exact a3z d n oE.1 (by lia) r h
  ·exact a3A ds n oE.2 (by lia) k hk r h
end
end
noncomputable def a9h:DecidableEq D:=λa b=>Classical.propDecidable (a=b)
noncomputable def b1d(prog:br)(w:bL):@HeapKind prog w D a9h:=
 letI:DecidableEq D:=a9h
 {
  is:=λh k a=>A5 k=true∧k.depth≤7∧∃as,Reads h (.ref a) k as
  hash:=hashD
  draws:=p8
  room:=λA=>A.units+8<cV
  inj:=λ⟨hx,_,_,r⟩ ⟨_,_,_,r'⟩=>SeqAt.Reads.unique _ _ _ _ _ (T2 _ hx) r r'
  keeps:=λ⟨hx,hd,_,r⟩ ho km hs=>⟨hx,hd,_,a2a ho km hs _ hx r⟩
  pyHash:=λhu ⟨hx,hd,_,r⟩ h=>a2b _ hx (by lia) r h
  eqBool:=λ{A E s x y a b Q} hu ⟨hx,hd,_,r⟩ ⟨hy,km,_,r'⟩ h=>by
   refine SeqAt.eqAt_reads x y A s _ _ _ _ r r' (T2 _ hx) (T2 _ hy) (by have:=oN x.depth y.depth;lia) _ _ _ _ ?_;have e:aJ x y=@decide (x=y) (a9h x y):=by
    by_cases c:x=y
    ·rw[@aH _ (a9h x y) c];exact (A1 x y hx hy).mpr c
    ·rw[@aR _ (a9h x y) c];cases q:aJ x y with
     |false=>rfl
     |true=>exact absurd ((A1 x y hx hy).mp q) c
   rw[e];exact h
  quiet:=λ⟨hx,hd,_,r⟩ h=>a3z _ 8 hx (by lia) r h
 }
def K2(e:D×V×V)(x:eA):Prop:=x.hash=hashD e.1∧RelV e.2.1 x.key∧RelV e.2.2 x.val
def K3:List D→Bool
 |.tuple [.int 0]::_=>true
 |_=>false
abbrev C2(es:List (D×V×V)):Bool:=K3 (es.map (·.1))
def c6(a:au)(es:List (D×V×V)):HO:=.ext λh=>(a==cR)=false∧es.length≤aS∧(es.map (·.1)).Nodup∧∃o ents ep,h.get? a=el o∧o.ExactDict∧o.data=.dict ents ep∧eO K2 es ents.toList∧(C2 es=false→ep=es.length)
def Mu:HO→Prop
 |.lst _=>True
 |.dK _=>True
 |.ext _=>True
 |_=>False
abbrev MuO:={o:HO // Mu o}
def keyOk(kt:Bool)(k:D):Prop:=A5 k=true∧k.depth≤7∧(kt=true→∃ds,k=.tuple ds)∧(kt=false→∃i,k=.int i)
end VS
namespace VS
open PySem L2
mutual
def imm:ba→Bool
 |.none=>true
 |.bool _=>true
 |.int _=>true
 |.str _=>true
 |.list _=>false
 |.tuple ds=>f6 ds
 |.dict _=>false
def f6:List ba→Bool
 |[]=>true
 |d::ds=>imm d&&f6 ds
end
def SqX(K:ag)(H:Hp)(a:au)(xs:List V):Prop:=
 Rd H a (.lst xs)∨∃(cJ:List ah) (n:Nat),K.lookup a=el {cls:=.type "list",data:=.seq cJ.toArray n}∧cJ.length≤aS∧Vals xs cJ
def SqX.l(h:SqX K H a xs):SqL K H a xs:=by
 rcases h with h|⟨cJ,n,h1,h2,h3⟩
 ·exact .inl h
 ·exact .inr ⟨_,cJ.toArray,n,h1,rfl,rfl,rfl,by simpa using h2,by simpa using h3⟩
theorem SqX.ok{X:Cx}(h:SqX X.K H a xs)(I:Inv X pins σ H s):xs.length≤aS∧∃(cJ:List ah) (n:Nat),Vals xs cJ∧s.heap.get? a=el {cls:=.type "list",data:=.seq cJ.toArray n}:=by
 rcases h with h|⟨cJ,n,h1,h2,h3⟩
 ·exact h.ok I.hok
 ·exact⟨by rw[h3.length];exact h2,cJ,n,h3,I.kIn _ _ h1⟩
mutual
theorem T3:∀d:ba,A5 d=true→imm d=true
 |.int _,_=>by simp only[imm]
 |.tuple ds,h=>by
  simp only[A5]at h;simp only[imm];exact a1j ds h
 |.none,h|.bool _,h|.str _,h|.list _,h|.dict _,h=>by simp only[A5]at h;cases h
theorem a1j:∀ds:List ba,o8 ds=true→f6 ds=true
 |[],_=>by simp only[f6]
 |d::ds,h=>by
  simp only[o8,av]at h;simp only[f6,av];exact⟨T3 d h.1,a1j ds h.2⟩
end
mutual
def Den(K:ag)(H:Hp):V→ba→Prop
 |v,.none=>v=.non
 |v,.bool b=>v=.bl b
 |v,.int i=>v=.int i
 |v,.str x=>v=.str x
 |v,.list ds=>∃a xs,v=.ref a∧SqX K H a xs∧DenAll K H xs ds
 |v,.tuple ds=>∃a xs,v=.ref a∧SqT K H a xs∧DenAll K H xs ds
 |v,.dict kvs=>∃a es,v=.ref a∧H a=el (c6 a es)∧DenKV K H es kvs
def DenAll(K:ag)(H:Hp):List V→List ba→Prop
 |xs,[]=>xs=[]
 |xs,d::ds=>∃v r,xs=v::r∧Den K H v d∧DenAll K H r ds
def DenKV(K:ag)(H:Hp):List (ba×V×V)→List (ba×ba)→Prop
 |es,[]=>es=[]
 |es,(k,d)::r=>∃e q,es=e::q∧e.1=k∧Den K H e.2.1 k∧Den K H e.2.2 d∧DenKV K H q r
end
def Rd.up(h:Rd H a u)(e:Same H H'):Rd H' a u:=by
 rcases h with h|⟨o,h⟩
 ·exact .inl (e _ _ h)
 ·exact .inr ⟨o,e _ _ h⟩
def T4(h:SqX K H a xs)(e:Same H H'):SqX K H' a xs:=h.imp (λq=>Rd.up q e) id
def Q0(h:SqT K H a xs)(e:Same H H'):SqT K H' a xs:=h.imp (λq=>Rd.up q e) id
mutual
theorem Den.mono{K:ag}{H H':Hp}(e:Same H H'):∀(d:ba) {v:V},Den K H v d→Den K H' v d
 |.none,_,h=>by simpa only [Den]using h
 |.bool _,_,h=>by simpa only [Den]using h
 |.int _,_,h=>by simpa only [Den]using h
 |.str _,_,h=>by simpa only [Den]using h
 |.list ds,_,h=>by
  simp only[Den]at h ⊢;obtain⟨a,xs,h1,h2,h3⟩:=h;exact⟨a,xs,h1,T4 h2 e,DenAll.mono e ds h3⟩
 |.tuple ds,_,h=>by
  simp only[Den]at h ⊢;obtain⟨a,xs,h1,h2,h3⟩:=h;exact⟨a,xs,h1,Q0 h2 e,DenAll.mono e ds h3⟩
 |.dict kvs,_,h=>by
  simp only[Den]at h ⊢;obtain⟨a,es,h1,h2,h3⟩:=h;exact⟨a,es,h1,e _ _ h2,DenKV.mono e kvs h3⟩
theorem DenAll.mono{K:ag}{H H':Hp}(e:Same H H'):∀(ds:List ba) {xs:List V},DenAll K H xs ds→DenAll K H' xs ds
 |[],_,h=>by simpa only [DenAll]using h
 |d::ds,_,h=>by
  simp only[DenAll]at h ⊢;obtain⟨v,r,h1,h2,h3⟩:=h;exact⟨v,r,h1,Den.mono e d h2,DenAll.mono e ds h3⟩
theorem DenKV.mono(e:Same H H'):∀(kvs:List (ba×ba)) {es:List (ba×V×V)},DenKV K H es kvs→DenKV K H' es kvs
 |[],_,h=>by simpa only [DenKV]using h
 | (k,d)::r,_,h=>by
  simp only[DenKV]at h ⊢;obtain⟨x,q,h1,h2,h3,h4,h5⟩:=h;exact⟨x,q,h1,h2,Den.mono e k h3,Den.mono e d h4,DenKV.mono e r h5⟩
end
section
variable {K:ag}{H H':Hp}
def Den.up{d:ba}{v:V}(h:Den K H v d)(e:Same H H'):Den K H' v d:=Den.mono e d h
def DenAll.up{ds:List ba}{xs:List V}(h:DenAll K H xs ds)(e:Same H H'):DenAll K H' xs ds:=DenAll.mono e ds h
def den_none:Den K H .non .none:=by simp only[Den]
def den_bool{b:Bool}:Den K H (.bl b) (.bool b):=by simp only[Den]
def den_int{i:Int}:Den K H (.int i) (.int i):=by simp only[Den]
def den_list{a:au}{xs:List V}{ds:List ba}(h:SqX K H a xs)(q:DenAll K H xs ds):Den K H (.ref a) (.list ds):=by
 simp only[Den];exact⟨a,xs,rfl,h,q⟩
def den_tup{a:au}{xs:List V}{ds:List ba}(h:SqT K H a xs)(q:DenAll K H xs ds):Den K H (.ref a) (.tuple ds):=by
 simp only[Den];exact⟨a,xs,rfl,h,q⟩
theorem a5u:∀{es:List (ba×V×V)} {ds:List ba},(∀e∈es,Den K H e.2.1 e.1)→DenAll K H (es.map (·.2.2)) ds→DenKV K H es ((es.map (·.1)).zip ds)
 |[],ds,_,h=>by
  cases ds with
  |nil=>simp only[cU,Bq,DenKV]
  |cons d ds=>simp only[DenAll]at h;obtain⟨v,r,h1,_⟩:=h;cases h1
 |e::es,ds,hk,h=>by
  cases ds with
  |nil=>simp only[DenAll]at h;cases h
  |cons d ds=>
   simp only[DenAll]at h;obtain⟨v,r,h1,h2,h3⟩:=h;cases h1
   simp only[aA,dZ,DenKV];exact⟨e,es,rfl,rfl,hk e aj,h2,a5u (λe he=>hk e (aq _ he)) h3⟩
def a3B(h:H a=el (c6 a es))(hk:∀e∈es,Den K H e.2.1 e.1)(hv:DenAll K H (es.map (·.2.2)) ds):Den K H (.ref a) (.dict ((es.map (·.1)).zip ds)):=by
 simp only[Den];exact⟨a,es,rfl,h,a5u hk hv⟩
def denAll_nil:DenAll K H [] []:=by simp only[DenAll]
def denAll_cons{v:V}{d:ba}{xs:List V}{ds:List ba}(h:Den K H v d)(q:DenAll K H xs ds):DenAll K H (v::xs) (d::ds):=by
 simp only[DenAll];exact⟨v,xs,rfl,h,q⟩
def Den.list_inv{v:V}{ds:List ba}(h:Den K H v (.list ds)):∃a xs,v=.ref a∧SqX K H a xs∧DenAll K H xs ds:=by simpa only [Den]using h
def Den.tup_inv{v:V}{ds:List ba}(h:Den K H v (.tuple ds)):∃a xs,v=.ref a∧SqT K H a xs∧DenAll K H xs ds:=by simpa only [Den]using h
def Den.dict_inv(h:Den K H v (.dict kvs)):∃a es,v=.ref a∧H a=el (c6 a es)∧DenKV K H es kvs:=by simpa only [Den]using h
theorem DenKV.keys:∀{kvs:List (ba×ba)} {es:List (ba×V×V)},DenKV K H es kvs→es.map (·.1)=kvs.map (·.1)
 |[],_,h=>by simp only[DenKV]at h;rw[h];rfl
 | (k,d)::r,_,h=>by
  simp only[DenKV]at h;obtain⟨e,q,rfl,h1,_,_,h2⟩:=h;rw[aA,aA,DenKV.keys h2,h1]
theorem DenKV.vals:∀{kvs:List (ba×ba)} {es:List (ba×V×V)},DenKV K H es kvs→DenAll K H (es.map (·.2.2)) (kvs.map (·.2))
 |[],_,h=>by simp only[DenKV]at h;rw[h];simp only[cU,DenAll]
 | (k,d)::r,_,h=>by
  simp only[DenKV]at h;obtain⟨e,q,rfl,_,_,h1,h2⟩:=h;simp only[aA,DenAll];exact⟨_,_,rfl,h1,DenKV.vals h2⟩
theorem DenKV.kden:∀{kvs:List (ba×ba)} {es:List (ba×V×V)},DenKV K H es kvs→∀e∈es,Den K H e.2.1 e.1
 |[],_,h,e,he=>by simp only[DenKV]at h;rw[h]at he;cases he
 | (k,d)::r,_,h,e,he=>by
  simp only[DenKV]at h;obtain⟨e0,q,rfl,h0,h1,_,h2⟩:=h;rcases az.mp he with z|z
  ·subst z;rw[h0];exact h1
  ·exact DenKV.kden h2 e z
def Den.int_inv{v:V}{i:Int}(h:Den K H v (.int i)):v=.int i:=by simpa only [Den]using h
def Den.bool_inv(h:Den K H v (.bool b)):v=.bl b:=by simpa only [Den]using h
def Den.none_inv(h:Den K H v .none):v=.non:=by simpa only [Den]using h
def Den.str_inv(h:Den K H v (.str x)):v=.str x:=by simpa only [Den]using h
def DenAll.cons_inv{xs:List V}{d:ba}{ds:List ba}(h:DenAll K H xs (d::ds)):∃v r,xs=v::r∧Den K H v d∧DenAll K H r ds:=by simpa only [DenAll]using h
def DenAll.nil_inv{xs:List V}(h:DenAll K H xs []):xs=[]:=by simpa only [DenAll]using h
theorem DenAll.length:∀{ds:List ba} {xs:List V},DenAll K H xs ds→xs.length=ds.length
 |[],_,h=>by rw[h.nil_inv];rfl
 |d::ds,_,h=>by
  obtain⟨v,r,rfl,_,h⟩:=h.cons_inv;rw[bh,bh,DenAll.length h]
theorem DenAll.get:∀{ds:List ba} {xs:List V} {i:Nat} {d:ba},DenAll K H xs ds→ds[i]?=el d→∃v,xs[i]?=el v∧Den K H v d
 |[],_,i,d,_,e=>by simp at e
 |d0::ds,_,0,d,h,e=>by
  obtain⟨v,r,rfl,h1,_⟩:=h.cons_inv;have:d0=d:=by simpa using e
  subst this;exact⟨v,rfl,h1⟩
 |d0::ds,_,i+1,d,h,e=>by
  obtain⟨v,r,rfl,_,h1⟩:=h.cons_inv;obtain⟨u,h2,h3⟩:=DenAll.get (i:=i) h1 (by simpa using e);exact⟨u,by simpa using h2,h3⟩
def DenAll.getV{ds:List ba}{xs:List V}{i:Nat}{v:V}(h:DenAll K H xs ds)(e:xs[i]?=el v):∃d,ds[i]?=el d∧Den K H v d:=by
 have hi:=(aP.mp e).1;rw[h.length]at hi;obtain⟨u,h1,h2⟩:=h.get (ak hi);rw[e]at h1;cases h1
 exact⟨_,ak hi,h2⟩
theorem DenAll.append:∀{ds:List ba} {xs:List V} {es:List ba} {ys:List V},DenAll K H xs ds→DenAll K H ys es→DenAll K H (xs++ys) (ds++es)
 |[],_,_,_,h,q=>by rw[h.nil_inv];exact q
 |d::ds,_,_,_,h,q=>by
  obtain⟨v,r,rfl,h1,h2⟩:=h.cons_inv;exact denAll_cons h1 (DenAll.append h2 q)
theorem DenAll.take:∀{ds:List ba} {xs:List V} (n:Nat),DenAll K H xs ds→DenAll K H (xs.take n) (ds.take n)
 |_,_,0,_=>by rw[List.take_zero,List.take_zero];exact denAll_nil
 |[],_,n+1,h=>by rw[h.nil_inv];exact denAll_nil
 |d::ds,_,n+1,h=>by
  obtain⟨v,r,rfl,h1,h2⟩:=h.cons_inv;exact denAll_cons h1 (DenAll.take n h2)
theorem DenAll.drop:∀{ds:List ba} {xs:List V} (n:Nat),DenAll K H xs ds→DenAll K H (xs.drop n) (ds.drop n)
 |_,_,0,h=>h
 |[],_,n+1,h=>by rw[h.nil_inv];exact denAll_nil
 |d::ds,_,n+1,h=>by
  obtain⟨v,r,rfl,_,h2⟩:=h.cons_inv;exact DenAll.drop n h2
theorem DenAll.ints:∀(ns:List Int),DenAll K H (ns.map V.int) (ns.map ay)
 |[]=>denAll_nil
 |n::ns=>denAll_cons den_int (DenAll.ints ns)
end
def cut(H:Hp)(F:List au):Hp:=λa=>if a∈F then p4 else H a
section
variable {H H':Hp}{F F':List au}{a:au}{o:HO}
def U8(h:a∉F):cut H F a=H a:=by unfold cut;rw[aI h]
def T5(h:a∈F):cut H F a=p4:=by unfold cut;rw[aB h]
def o6(h:cut H F a=el o):a∉F∧H a=el o:=by
 by_cases q:a∈F
 ·rw[T5 q]at h;cases h
 ·rw[U8 q]at h;exact⟨q,h⟩
def j5(h1:a∉F)(h2:H a=el o):cut H F a=el o:=by rw[U8 h1];exact h2
def i7:Same (cut H F) H:=λ_ _ h=>(o6 h).2
def K4(e:Same H H')(hF:∀a o,H a=el o→a∈F'→a∈F):Same (cut H F) (cut H' F'):=λa o h=>by
 obtain⟨h1,h2⟩:=o6 h;exact j5 (λq=>h1 (hF a o h2 q)) (e _ _ h2)
def A2(e:Same H H'):Same (cut H F) (cut H' F):=K4 e λ_ _ _ q=>q
def D7(hF:∀a,a∈F'→a∈F):Same (cut H F) (cut H F'):=K4 (Same.refl H) λa _ _ q=>hF a q
def J0:cut H []=H:=by
 funext a
 exact U8 (by simp)
end
inductive Ty where
 |i|f|l (t:Ty)|tp (ts:List Ty)|d (kt:Bool) (t:Ty)
mutual
def Ty.shut:Ty→Bool
 |.i=>true
 |.f=>false
 |.l u=>u.shut
 |.tp us=>Ty.shutAll us
 |.d _ u=>u.shut
def Ty.shutAll:List Ty→Bool
 |[]=>true
 |u::us=>u.shut&&Ty.shutAll us
end
def ListAll(R:V→ba→List au→Prop):List V→List ba→List au→Prop
 |xs,[],fp=>xs=[]∧fp=[]
 |xs,d::ds,fp=>∃v r f g,xs=v::r∧fp=f++g∧R v d f∧ListAll R r ds g
mutual
def Own(K:ag)(H:Hp)(F:List au):Ty→V→ba→List au→Prop
 |.i,v,d,fp=>fp=[]∧imm d=true∧Den K (cut H F) v d
 |.f,v,d,fp=>fp=[]∧Den K (cut H F) v d
 |.l u,v,d,fp=>(fp=[]∧imm d=true∧Den K (cut H F) v d)∨∃a xs ds fs,v=.ref a∧H a=el (.lst xs)∧d=.list ds∧fp=a::fs∧ListAll (Own K H F u) xs ds fs
 |.tp us,v,d,fp=>∃a xs ds,v=.ref a∧H a=el (.tup xs)∧a∉F∧d=.tuple ds∧OwnTs K H F us xs ds fp
 |.d kt u,v,d,fp=>∃a es ds fs,v=.ref a∧H a=el (c6 a es)∧d=.dict ((es.map (·.1)).zip ds)∧fp=a::fs∧((es.map (·.1)).Nodup∧∀e∈es,keyOk kt e.1∧Den K (cut H F) e.2.1 e.1)∧ListAll (Own K H F u) (es.map (·.2.2)) ds fs
def OwnTs(K:ag)(H:Hp)(F:List au):List Ty→List V→List ba→List au→Prop
 |[],xs,ds,fp=>xs=[]∧ds=[]∧fp=[]
 |u::us,xs,ds,fp=>∃v r d e f g,xs=v::r∧ds=d::e∧fp=f++g∧Own K H F u v d f∧OwnTs K H F us r e g
end
section
variable {R R':V→ba→List au→Prop}
def m3:ListAll R [] [] []:=by simp only[ListAll];exact⟨trivial,trivial⟩
def k9(h:R v d f)(q:ListAll R xs ds g):ListAll R (v::xs) (d::ds) (f++g):=by
 simp only[ListAll];exact⟨v,xs,f,g,rfl,rfl,h,q⟩
def ListAll.nil_inv(h:ListAll R xs [] fp):xs=[]∧fp=[]:=by simpa only [ListAll]using h
def ListAll.cons_inv(h:ListAll R xs (d::ds) fp):∃v r f g,xs=v::r∧fp=f++g∧R v d f∧ListAll R r ds g:=by simpa only [ListAll]using h
theorem ListAll.length:∀{ds:List ba} {xs:List V} {fp:List au},ListAll R xs ds fp→xs.length=ds.length
 |[],_,_,h=>by rw[h.nil_inv.1];rfl
 |d::ds,_,_,h=>by
  obtain⟨v,r,f,g,rfl,_,_,h⟩:=h.cons_inv;rw[bh,bh,ListAll.length h]
theorem ListAll.imp:∀{ds:List ba} {xs:List V} {fp:List au},ListAll R xs ds fp→(∀v d f,(∀a∈f,a∈fp)→d∈ds→R v d f→R' v d f)→ListAll R' xs ds fp
 |[],_,_,h,_=>by obtain⟨rfl,rfl⟩:=h.nil_inv;exact m3
 |d::ds,_,_,h,q=>by
  obtain⟨v,r,f,g,rfl,rfl,h1,h2⟩:=h.cons_inv;exact k9 (q v d f (λa ha=>aL _ ha) aj h1) (ListAll.imp h2 λv d f' hf hd hR=>q v d f' (λa ha=>ax _ (hf a ha)) (aq _ hd) hR)
theorem ListAll.append:∀{ds es:List ba} {xs ys:List V} {fp gp:List au},ListAll R xs ds fp→ListAll R ys es gp→ListAll R (xs++ys) (ds++es) (fp++gp)
 |[],_,_,_,_,_,h,q=>by obtain⟨rfl,rfl⟩:=h.nil_inv;exact q
 |d::ds,_,_,_,_,_,h,q=>by
  obtain⟨v,r,f,g,rfl,rfl,h1,h2⟩:=h.cons_inv;rw[bp];exact k9 h1 (ListAll.append h2 q)
theorem ListAll.at_:∀{ds:List ba} {xs:List V} {fp:List au} {k:Nat} {d:ba},ListAll R xs ds fp→ds[k]?=el d→
  ∃v f pre post,xs[k]?=el v∧R v d f∧fp=pre++(f++post)∧ListAll R (xs.take k) (ds.take k) pre∧ListAll R (xs.drop (k+1)) (ds.drop (k+1)) post
 |[],_,_,k,d,_,e=>by simp at e
 |d0::ds,_,_,0,d,h,e=>by
  obtain⟨v,r,f,g,rfl,rfl,h1,h2⟩:=h.cons_inv;have:d0=d:=by simpa using e
  subst this;exact⟨v,f,[],g,rfl,h1,rfl,m3,h2⟩
 |d0::ds,_,_,k+1,d,h,e=>by
  obtain⟨v,r,f,g,rfl,rfl,h1,h2⟩:=h.cons_inv;obtain⟨u,f',pre,post,e1,e2,e3,e4,e5⟩:=ListAll.at_ (k:=k) h2 (by simpa using e);subst e3;exact⟨u,f',f++pre,post,by simpa using e1,e2,by rw[bp],k9 h1 e4,e5⟩
end
section
variable {K:ag}{H H':Hp}{F F':List au}
theorem ListAll.den(hR:∀v d f,R v d f→Den K H v d):∀{ds:List ba} {xs:List V} {fp:List au},ListAll R xs ds fp→DenAll K H xs ds
 |[],_,_,h=>by rw[h.nil_inv.1];exact denAll_nil
 |d::ds,_,_,h=>by
  obtain⟨v,r,f,g,rfl,_,h1,h2⟩:=h.cons_inv;exact denAll_cons (hR _ _ _ h1) (ListAll.den hR h2)
mutual
theorem Own.den:∀(u:Ty) {v:V} {d:ba} {fp:List au},Own K H F u v d fp→Den K H v d
 |.i,_,_,_,h=>by simp only[Own]at h;exact h.2.2.up i7
 |.f,_,_,_,h=>by simp only[Own]at h;exact h.2.up i7
 |.l u,_,_,_,h=>by
  simp only[Own]at h;rcases h with⟨_,_,h⟩|⟨a,xs,ds,fs,rfl,h1,rfl,_,h2⟩
  ·exact h.up i7
  ·exact den_list (.inl (.inl h1)) (ListAll.den (λv d f q=>Own.den u q) h2)
 |.tp us,_,_,_,h=>by
  simp only[Own]at h;obtain⟨a,xs,ds,rfl,h1,_,rfl,h2⟩:=h;exact den_tup (SqT.of h1) (OwnTs.den us h2)
 |.d kt u,_,_,_,h=>by
  simp only[Own]at h;obtain⟨a,es,ds,fs,rfl,h1,rfl,_,h3,h2⟩:=h;exact a3B h1 (λe he=>(h3.2 e he).2.up i7) (ListAll.den (λv d f q=>Own.den u q) h2)
theorem OwnTs.den:∀(us:List Ty) {xs:List V} {ds:List ba} {fp:List au},OwnTs K H F us xs ds fp→DenAll K H xs ds
 |[],_,_,_,h=>by simp only[OwnTs]at h;obtain⟨rfl,rfl,_⟩:=h;exact denAll_nil
 |u::us,_,_,_,h=>by
  simp only[OwnTs]at h;obtain⟨v,r,d,e,f,g,rfl,rfl,_,h1,h2⟩:=h;exact denAll_cons (Own.den u h1) (OwnTs.den us h2)
end
mutual
theorem Own.frame(e:Same (cut H F) (cut H' F')):∀(u:Ty) {v:V} {d:ba} {fp:List au},Own K H F u v d fp→(∀a∈fp,H' a=H a)→Own K H' F' u v d fp
 |.i,_,_,_,h,_=>by simp only[Own]at h ⊢;exact⟨h.1,h.2.1,h.2.2.up e⟩
 |.f,_,_,_,h,_=>by simp only[Own]at h ⊢;exact⟨h.1,h.2.up e⟩
 |.l u,_,_,_,h,k=>by
  simp only[Own]at h ⊢;rcases h with⟨h1,h2,h⟩|⟨a,xs,ds,fs,rfl,h1,rfl,rfl,h2⟩
  ·exact .inl ⟨h1,h2,h.up e⟩
  ·exact .inr ⟨a,xs,ds,fs,rfl,(k a aj).trans h1,rfl,rfl,h2.imp λv d f hf _ q=>Own.frame e u q λb hb=>k b (aq _ (hf b hb))⟩
 |.tp us,_,_,_,h,k=>by
  simp only[Own]at h ⊢;obtain⟨a,xs,ds,rfl,h1,h0,rfl,h2⟩:=h;obtain⟨h3,h4⟩:=o6 (e a _ (j5 h0 h1));exact⟨a,xs,ds,rfl,h4,h3,rfl,OwnTs.frame e us h2 k⟩
 |.d kt u,_,_,_,h,k=>by
  simp only[Own]at h ⊢;obtain⟨a,es,ds,fs,rfl,h1,rfl,rfl,h3,h2⟩:=h;exact⟨a,es,ds,fs,rfl,(k a aj).trans h1,rfl,rfl,⟨h3.1,λx hx=>⟨(h3.2 x hx).1,(h3.2 x hx).2.up e⟩⟩,h2.imp λv d f hf _ q=>Own.frame e u q λb hb=>k b (aq _ (hf b hb))⟩
theorem OwnTs.frame(e:Same (cut H F) (cut H' F')):∀(us:List Ty) {xs:List V} {ds:List ba} {fp:List au},OwnTs K H F us xs ds fp→(∀a∈fp,H' a=H a)→OwnTs K H' F' us xs ds fp
 |[],_,_,_,h,_=>by simpa only [OwnTs]using h
 |u::us,_,_,_,h,k=>by
  simp only[OwnTs]at h ⊢;obtain⟨v,r,d,e',f,g,rfl,rfl,rfl,h1,h2⟩:=h;exact⟨v,r,d,e',f,g,rfl,rfl,rfl,Own.frame e u h1 λa ha=>k a (aL _ ha),OwnTs.frame e us h2 λa ha=>k a (ax _ ha)⟩
end
theorem ListAll.lst{u:Ty}{R:V→ba→List au→Prop}(hR:∀v d f,R v d f→∀a∈f,∃ys:MuO,H a=el ys.1):∀{ds:List ba} {xs:List V} {fp:List au},ListAll R xs ds fp→∀a∈fp,∃ys:MuO,H a=el ys.1
 |[],_,_,h,a,ha=>by rw[h.nil_inv.2]at ha;cases ha
 |d::ds,_,_,h,a,ha=>by
  obtain⟨v,r,f,g,rfl,rfl,h1,h2⟩:=h.cons_inv;rcases aF.mp ha with z|z
  ·exact hR _ _ _ h1 a z
  ·exact ListAll.lst (u:=u) hR h2 a z
mutual
theorem Own.lst:∀(u:Ty) {v:V} {d:ba} {fp:List au},Own K H F u v d fp→∀a∈fp,∃ys:MuO,H a=el ys.1
 |.i,_,_,_,h,a,ha=>by simp only[Own]at h;rw[h.1]at ha;cases ha
 |.f,_,_,_,h,a,ha=>by simp only[Own]at h;rw[h.1]at ha;cases ha
 |.l u,_,_,_,h,b,hb=>by
  simp only[Own]at h;rcases h with⟨h1,_⟩|⟨a,xs,ds,fs,rfl,h1,rfl,rfl,h2⟩
  ·rw[h1]at hb;cases hb
  ·rcases az.mp hb with z|z
   ·subst z;exact⟨⟨.lst xs,trivial⟩,h1⟩
   ·exact ListAll.lst (u:=u) (λv d f q=>Own.lst u q) h2 b z
 |.tp us,_,_,_,h,b,hb=>by
  simp only[Own]at h;obtain⟨a,xs,ds,rfl,h1,_,rfl,h2⟩:=h;exact OwnTs.lst us h2 b hb
 |.d kt u,_,_,_,h,b,hb=>by
  simp only[Own]at h;obtain⟨a,es,ds,fs,rfl,h1,rfl,rfl,h3,h2⟩:=h;rcases az.mp hb with z|z
  ·subst z;exact⟨⟨c6 b es,trivial⟩,h1⟩
  ·exact ListAll.lst (u:=u) (λv d f q=>Own.lst u q) h2 b z
theorem OwnTs.lst:∀(us:List Ty) {xs:List V} {ds:List ba} {fp:List au},OwnTs K H F us xs ds fp→∀a∈fp,∃ys:MuO,H a=el ys.1
 |[],_,_,_,h,a,ha=>by simp only[OwnTs]at h;rw[h.2.2]at ha;cases ha
 |u::us,_,_,_,h,b,hb=>by
  simp only[OwnTs]at h;obtain⟨v,r,d,e,f,g,rfl,rfl,rfl,h1,h2⟩:=h;rcases aF.mp hb with z|z
  ·exact Own.lst u h1 b z
  ·exact OwnTs.lst us h2 b z
end
def b3P(h:SqT K H a xs)(hF:∀a∈F,∃ys:MuO,H a=el ys.1):SqT K (cut H F) a xs:=by
 rcases h with (h|⟨o,h⟩)|h
 ·refine .inl (.inl (j5 (λq=>?_) h));obtain⟨⟨ys,my⟩,e⟩:=hF a q;rw[h]at e;have e':=aK e;rw[show ys=_ from e'.symm]at my;exact my
 ·refine .inl (.inr ⟨o,j5 (λq=>?_) h⟩);obtain⟨⟨ys,my⟩,e⟩:=hF a q;rw[h]at e;have e':=aK e;rw[show ys=_ from e'.symm]at my;exact my
 ·exact .inr h
mutual
theorem Den.imm_out(hF:∀a∈F,∃ys:MuO,H a=el ys.1):∀(d:ba) {v:V},imm d=true→Den K H v d→Den K (cut H F) v d
 |.none,_,_,h=>by simpa only [Den]using h
 |.bool _,_,_,h=>by simpa only [Den]using h
 |.int _,_,_,h=>by simpa only [Den]using h
 |.str _,_,_,h=>by simpa only [Den]using h
 |.list ds,_,q,_=>by simp only[imm]at q;cases q
 |.tuple ds,_,q,h=>by
  simp only[imm]at q;obtain⟨a,xs,rfl,h1,h2⟩:=h.tup_inv;exact den_tup (b3P h1 hF) (DenAll.imm_out hF ds q h2)
 |.dict _,_,q,_=>by simp only[imm]at q;cases q
theorem DenAll.imm_out(hF:∀a∈F,∃ys:MuO,H a=el ys.1):∀(ds:List ba) {xs:List V},f6 ds=true→DenAll K H xs ds→DenAll K (cut H F) xs ds
 |[],_,_,h=>by simpa only [DenAll]using h
 |d::ds,_,q,h=>by
  simp only[f6,av]at q;obtain⟨v,r,rfl,h1,h2⟩:=h.cons_inv;exact denAll_cons (Den.imm_out hF d q.1 h1) (DenAll.imm_out hF ds q.2 h2)
end
mutual
theorem Own.shut_out(hF:∀a∈F',∃ys:MuO,H a=el ys.1):∀(u:Ty) {v:V} {d:ba} {fp:List au},u.shut=true→Own K H F u v d fp→Own K H F' u v d fp
 |.i,_,_,_,_,h=>by simp only[Own]at h ⊢;exact⟨h.1,h.2.1,(h.2.2.up i7).imm_out hF _ h.2.1⟩
 |.f,_,_,_,q,h=>by simp only[Ty.shut]at q;cases q
 |.l u,_,_,_,q,h=>by
  simp only[Ty.shut]at q;simp only[Own]at h ⊢;rcases h with⟨h1,h2,h⟩|⟨a,xs,ds,fs,rfl,h1,rfl,rfl,h2⟩
  ·exact .inl ⟨h1,h2,(h.up i7).imm_out hF _ h2⟩
  ·exact .inr ⟨a,xs,ds,fs,rfl,h1,rfl,rfl,h2.imp λv d f _ _ z=>Own.shut_out hF u q z⟩
 |.tp us,_,_,_,q,h=>by
  simp only[Ty.shut]at q;simp only[Own]at h ⊢;obtain⟨a,xs,ds,rfl,h1,h0,rfl,h2⟩:=h;refine⟨a,xs,ds,rfl,h1,λz=>?_,rfl,OwnTs.shut_out hF us q h2⟩;obtain⟨⟨ys,my⟩,e⟩:=hF a z;rw[h1]at e;have e':=aK e;rw[show ys=_ from e'.symm]at my;exact my
 |.d kt u,_,_,_,q,h=>by
  simp only[Ty.shut]at q;simp only[Own]at h ⊢;obtain⟨a,es,ds,fs,rfl,h1,rfl,rfl,h3,h2⟩:=h;exact⟨a,es,ds,fs,rfl,h1,rfl,rfl,⟨h3.1,λx hx=>⟨(h3.2 x hx).1,((h3.2 x hx).2.up i7).imm_out hF _ (T3 _ (h3.2 x hx).1.1)⟩⟩,h2.imp λv d f _ _ z=>Own.shut_out hF u q z⟩
theorem OwnTs.shut_out(hF:∀a∈F',∃ys:MuO,H a=el ys.1):∀(us:List Ty) {xs:List V} {ds:List ba} {fp:List au},Ty.shutAll us=true→OwnTs K H F us xs ds fp→OwnTs K H F' us xs ds fp
 |[],_,_,_,_,h=>by simpa only [OwnTs]using h
 |u::us,_,_,_,q,h=>by
  simp only[Ty.shutAll,av]at q;simp only[OwnTs]at h ⊢;obtain⟨v,r,d,e,f,g,rfl,rfl,rfl,h1,h2⟩:=h;exact⟨v,r,d,e,f,g,rfl,rfl,rfl,Own.shut_out hF u q.1 h1,OwnTs.shut_out hF us q.2 h2⟩
end
end
end VS
namespace VS
open PySem PySem.Spec L2
open SeqAt in
def items_eqAt{A:bD}{s:ai}{us ws:Array ah}(ra:jx s.heap us.toList xs as)(rb:jx s.heap ws.toList ys bs)(ha:be xs=true)(hb:be ys=true)
  (hu:A.in1.units+min (dA xs) (dA ys)<cV):∀(k:Nat) (k1:k<us.size) (k2:k<ws.size),EqAt A.in1 s us[k] ws[k] (pairEq xs ys k):=λk k1 k2=>
 eqAt_readsAll xs ys A.in1 s us.toList ws.toList as bs ra rb ha hb hu k k1 k2
open SeqAt in
def a6N{A:bD}{s:ai}(ra:Reads s.heap a da as)(rb:Reads s.heap b db bs)(ha:da.canLay0=true)(hb:db.canLay0=true)
  (hu:A.units+min da.depth db.depth<cV):RcNeAt A s a b (!aJ da db):=by
 have u0:=room_here hu;cases ra with
 |dict=>exact nomatch ha
 |none=>cases rb with
  |dict=>exact nomatch hb
  |none=>exact RcNeAt.none_none
  |bool y=>exact RcNeAt.none_bool y
  |int y v=>exact RcNeAt.none_int y v
  |str y v=>exact RcNeAt.none_str y v
  |list c1 c2 c3 c4=>exact RcNeAt.none_list ⟨_,c1,c2,_,c3⟩ u0
  |tuple c1 c2 c3 c4=>exact RcNeAt.none_tuple ⟨_,c1,c2,_,c3⟩ u0
 |bool x=>cases rb with
  |dict=>exact nomatch hb
  |none=>exact RcNeAt.bool_none x
  |bool y=>exact RcNeAt.bool_bool x y
  |int y v=>exact RcNeAt.bool_int x y v
  |str y v=>exact RcNeAt.bool_str x y v
  |list c1 c2 c3 c4=>exact RcNeAt.bool_list x ⟨_,c1,c2,_,c3⟩ u0
  |tuple c1 c2 c3 c4=>exact RcNeAt.bool_tuple x ⟨_,c1,c2,_,c3⟩ u0
 |int x t=>cases rb with
  |dict=>exact nomatch hb
  |none=>exact RcNeAt.int_none x t
  |bool y=>exact RcNeAt.int_bool x t y
  |int y v=>exact RcNeAt.int_int x t y v
  |str y v=>exact RcNeAt.int_str x t y v
  |list c1 c2 c3 c4=>exact RcNeAt.int_list x t ⟨_,c1,c2,_,c3⟩ u0
  |tuple c1 c2 c3 c4=>exact RcNeAt.int_tuple x t ⟨_,c1,c2,_,c3⟩ u0
 |str x t=>cases rb with
  |dict=>exact nomatch hb
  |none=>exact RcNeAt.str_none x t
  |bool y=>exact RcNeAt.str_bool x t y
  |int y v=>exact RcNeAt.str_int x t y v
  |str y v=>exact RcNeAt.str_str x t y v
  |list c1 c2 c3 c4=>exact RcNeAt.str_list x t ⟨_,c1,c2,_,c3⟩ u0
  |tuple c1 c2 c3 c4=>exact RcNeAt.str_tuple x t ⟨_,c1,c2,_,c3⟩ u0
 |@list la oa us na xs fa c1 c2 c3 c4=>
  have sa:s.heap.IsList la us:=⟨oa,c1,c2,na,c3⟩;cases rb with
  |dict=>exact nomatch hb
  |none=>exact RcNeAt.list_none sa u0
  |bool y=>exact RcNeAt.list_bool y sa u0
  |int y v=>exact RcNeAt.list_int y v sa u0
  |str y v=>exact RcNeAt.list_str y v sa u0
  |tuple e1 e2 e3 e4=>exact RcNeAt.list_tuple sa ⟨_,e1,e2,_,e3⟩ u0
  |@list lb ob ws nb ys fb e1 e2 e3 e4=>
   have sb:s.heap.IsList lb ws:=⟨ob,e1,e2,nb,e3⟩;have z1:us.size=xs.length:=by simpa using nY xs _ _ c4
   have z2:ws.size=ys.length:=by simpa using nY ys _ _ e4
   have pr:=items_eqAt c4 e4 ha hb (room_in hu);show RcNeAt A s (.ref la) (.ref lb) (!de xs ys);by_cases z:us.size=ws.size
   ·rw[←eqvAll_same_length (show xs.length=ys.length by lia),←z1];exact RcNeAt.lists sa sb z u0 pr
   ·rw[eqvAll_other_length (show xs.length≠ys.length by lia)];exact RcNeAt.lists_lengths sa sb (bne_iff_ne.mpr z) u0
 |@tuple la oa us na xs fa c1 c2 c3 c4=>
  have sa:s.heap.IsTuple la us:=⟨oa,c1,c2,na,c3⟩;cases rb with
  |dict=>exact nomatch hb
  |none=>exact RcNeAt.tuple_none sa u0
  |bool y=>exact RcNeAt.tuple_bool y sa u0
  |int y v=>exact RcNeAt.tuple_int y v sa u0
  |str y v=>exact RcNeAt.tuple_str y v sa u0
  |list e1 e2 e3 e4=>exact RcNeAt.tuple_list sa ⟨_,e1,e2,_,e3⟩ u0
  |@tuple lb ob ws nb ys fb e1 e2 e3 e4=>
   have sb:s.heap.IsTuple lb ws:=⟨ob,e1,e2,nb,e3⟩;have z1:us.size=xs.length:=by simpa using nY xs _ _ c4
   have z2:ws.size=ys.length:=by simpa using nY ys _ _ e4
   have pr:=items_eqAt c4 e4 ha hb (room_in hu);show RcNeAt A s (.ref la) (.ref lb) (!de xs ys);rw[←eqvAll_eq xs ys,←z1,←z2];exact RcNeAt.tuples sa sb u0 pr
mutual
theorem Den.reads{X:Cx}{pins:List (au×fD)}{σ:St}{H:Hp}{s:ai}(I:Inv X pins σ H s):∀(d:ba) {v:V} {u:ah},d.canLay0=true→Den X.K H v d→RelV v u→∃as,Reads s.heap u d as
 |.none,v,u,_,q,r=>by
  cases q.none_inv
  cases (show u=bz from r)
  exact⟨_,.none⟩
 |.bool b,v,u,_,q,r=>by
  cases q.bool_inv
  cases (show u=ji b from r)
  exact⟨_,.bool b⟩
 |.int i,v,u,_,q,r=>by
  cases q.int_inv
  obtain⟨t,rfl⟩:=r;exact⟨_,.int i t⟩
 |.str x,v,u,_,q,r=>by
  cases q.str_inv
  obtain⟨t,rfl⟩:=r;exact⟨_,.str x t⟩
 |.list ds,v,u,hl,q,r=>by
  obtain⟨a,xs,rfl,h1,h2⟩:=q.list_inv;cases (show u=aW a from r)
  obtain⟨z,cJ,n,rv,e⟩:=h1.ok I;obtain⟨as,ra⟩:=DenAll.reads I ds hl h2 rv;exact⟨_,.list e rfl rfl (by simpa using ra)⟩
 |.tuple ds,v,u,hl,q,r=>by
  obtain⟨a,xs,rfl,h1,h2⟩:=q.tup_inv;cases (show u=aW a from r)
  obtain⟨cJ,rv,⟨o,e,c,n,d⟩,_⟩:=I.tuple h1;obtain⟨as,ra⟩:=DenAll.reads I ds hl h2 rv;exact⟨_,.tuple e c d (by simpa using ra)⟩
 |.dict _,_,_,hl,_,_=>nomatch hl
theorem DenAll.reads{X:Cx}{pins:List (au×fD)}{σ:St}{H:Hp}{s:ai}(I:Inv X pins σ H s):∀(ds:List ba) {xs:List V} {us:List ah},be ds=true→DenAll X.K H xs ds→Vals xs us→∃as,jx s.heap us ds as
 |[],xs,us,_,q,r=>by
  cases q.nil_inv
  cases r
  exact⟨_,.nil⟩
 |d::ds,xs,us,hl,q,r=>by
  have pG:d.canLay0=true∧be ds=true:=by simpa[be]using hl
  obtain⟨v,rs,rfl,h1,h2⟩:=q.cons_inv;cases r with
  |cons r1 r2=>
   obtain⟨as,ra⟩:=Den.reads I d pG.1 h1 r1;obtain⟨bs,rb⟩:=DenAll.reads I ds pG.2 h2 r2;exact⟨_,.cons ra rb⟩
end
def OpS(X:Cx)(f:ah→ah→Sem ah)(g:D→D→Option D):Prop:=
 ∃r,OpR X f r∧∀(x y:V) (H:Hp) (a b d:D) (Q:VK),Den X.K H x a→Den X.K H y b→g a b=el d→(∀v,imm d=true→(∀H',Den X.K H' v d)→Q v H)→r x y H Q
def b1e(X:Cx)(f:ah)(g:List D→Option D):Prop:=
 ∃r,CallR X f r∧∀(xs:List V) (H:Hp) (ds:List D) (d:D) (Q:VK),DenAll X.K H xs ds→g ds=el d→(∀v,imm d=true→(∀H',Den X.K H' v d)→Q v H)→r xs H Q
def d2I(p:Int→Int→Bool)(g:Int→Int→D):D→D→Option D
 |.int a,.int b=>if p a b then el (g a b) else p4
 |_,_=>p4
def a2c(h:d2I p g a b=el d):∃i j,a=.int i∧b=.int j∧p i j=true∧d=g i j:=by
 cases a with
 |int i=>
  cases b with
  |int j=>
   have h':(if p i j=true then el (g i j) else p4)=el d:=h;by_cases c:p i j=true
   ·rw[aB c]at h';exact⟨i,j,rfl,rfl,c,(aK h').symm⟩
   ·rw[aI c]at h';cases h'
  |_=>cases h
 |_=>cases h
def pT:Int→Int→Bool:=λ_ _=>true
abbrev l9:D→D→Option D:=d2I pT λa b=>.int (a+b)
abbrev a4y:D→D→Option D:=d2I pT λa b=>.int (a-b)
def a9i(a b:Int):Bool:=decide (a.natAbs<2^64)||decide (b.natAbs<2^64)
abbrev A3:D→D→Option D:=d2I a9i λa b=>.int (a*b)
def b6y(_ b:Int):Bool:=decide (0<b)
abbrev u9:D→D→Option D:=d2I b6y λa b=>.int (a % b)
def b3Q(_ b:Int):Bool:=decide (0<b)&&decide (b<1073741824)
abbrev N5:D→D→Option D:=d2I b3Q λa b=>.int (a / b)
def b3R(a b:Int):Bool:=decide (0≤b)&&decide (b≤1000000)&&decide (a.natAbs<2^64)
abbrev a4z:D→D→Option D:=d2I b3R λa b=>.int (a^b.toNat)
abbrev dLt:D→D→Option D:=d2I pT λa b=>.bool (decide (a<b))
abbrev dLe:D→D→Option D:=d2I pT λa b=>.bool (decide (a≤b))
abbrev dGt:D→D→Option D:=d2I pT λa b=>.bool (decide (b<a))
abbrev dGe:D→D→Option D:=d2I pT λa b=>.bool (decide (b≤a))
def a9j(neg:Bool)(a b:D):Option D:=if a.canLay0&&b.canLay0&&decide (a.depth≤60) then el (.bool (neg !=aJ a b)) else p4
abbrev dEq:D→D→Option D:=a9j false
abbrev dNe:D→D→Option D:=a9j true
def isN:D→Bool
 |.none=>true
 |_=>false
def N1(neg:Bool)(a b:D):Option D:=if isN b then el (.bool (neg !=isN a)) else p4
def b6z(neg:Bool):D→D→Option D
 |.bool a,.bool b=>el (.bool (neg !=(a==b)))
 |_,_=>p4
section
variable {X:Cx}
def b3S{f:ah→ah→Sem ah}{C:Int→Int→Prop}{p:Int→Int→Bool}{g:Int→Int→Int}(ho:OpR X f (rI C λi j=>.int (g i j)))(hp:∀i j,p i j=true→C i j):OpS X f (d2I p λa b=>.int (g a b)):=by
 refine⟨_,ho,λx y H a b d Q ha hb hg q=>?_⟩;obtain⟨i,j,rfl,rfl,c,rfl⟩:=a2c hg;exact⟨i,j,ha.int_inv,hb.int_inv,hp i j c,q _ (by simp only[imm]) λ_=>den_int⟩
def b5v{f:ah→ah→Sem ah}{g:Int→Int→Int}(ho:OpR X f (rI0 λi j=>.int (g i j))):OpS X f (d2I pT λa b=>.int (g a b)):=by
 refine⟨_,ho,λx y H a b d Q ha hb hg q=>?_⟩;obtain⟨i,j,rfl,rfl,c,rfl⟩:=a2c hg;exact⟨i,j,ha.int_inv,hb.int_inv,q _ (by simp only[imm]) λ_=>den_int⟩
def b1f{f:ah→ah→Sem ah}{g:Int→Int→Bool}(ho:OpR X f (rI0 λi j=>.bl (g i j))):OpS X f (d2I pT λa b=>.bool (g a b)):=by
 refine⟨_,ho,λx y H a b d Q ha hb hg q=>?_⟩;obtain⟨i,j,rfl,rfl,c,rfl⟩:=a2c hg;exact⟨i,j,ha.int_inv,hb.int_inv,q _ (by simp only[imm]) λ_=>den_bool⟩
def x8:OpS X (eL .Add) l9:=b5v b6j
def Y6:OpS X (eL .Sub) a4y:=b5v b6k
def K5:OpS X (eL .Mult) A3:=b3S b6l λi j h=>by
 unfold a9i at h;rw[gX]at h;rcases h with h|h
 ·have:=aN h;exact .inl ⟨by lia,by lia⟩
 ·have:=aN h;exact .inr ⟨by lia,by lia⟩
def u7:OpS X (eL .Mod) u9:=b3S b6m λi j h=>aN h
def N2:OpS X (eL .FloorDiv) N5:=b3S b3A λi j h=>by
 unfold b3Q at h;rw[av]at h;exact⟨aN h.1,aN h.2⟩
def a2d:OpS X (eL .Pow) a4z:=b3S b6n λi j h=>by
 unfold b3R at h;rw[av,av]at h;exact⟨aN h.1.1,aN h.1.2,aN h.2⟩
def a8e:OpS X (bS .Lt) dLt:=b1f b8p
def b1g:OpS X (bS .LtE) dLe:=b1f b8q
def b8x:OpS X (bS .Gt) dGt:=b1f b8r
def b6A(K:ag)(neg:Bool):R2:=λx y H Q=>∃d e,Den K H x d∧Den K H y e∧d.canLay0=true∧e.canLay0=true∧d.depth≤60∧Q (.bl (neg !=aJ d e)) H
def b1h(hu:X.A.units+64<cV):OpR X (bS .Eq) (b6A X.K false):=by
 intro pins s σ H x y v u Q I rx ry h;obtain⟨d,e,h1,h2,c1,c2,hd,q⟩:=h;obtain⟨as,ra⟩:=Den.reads I d c1 h1 rx;obtain⟨bs,rb⟩:=Den.reads I e c2 h2 ry;refine SeqAt.compareEq_reads ra rb c1 c2 (by have:=oN d.depth e.depth;lia) ?_;exact⟨.bl _,H,I,rfl,by simpa using q⟩
def b1i(hu:X.A.units+64<cV):OpR X (bS .NotEq) (b6A X.K true):=by
 intro pins s σ H x y v u Q I rx ry h;obtain⟨d,e,h1,h2,c1,c2,hd,q⟩:=h;obtain⟨as,ra⟩:=Den.reads I d c1 h1 rx;obtain⟨bs,rb⟩:=Den.reads I e c2 h2 ry;refine a6N ra rb c1 c2 (by have:=oN d.depth e.depth;lia) _ _ _ _ ?_;exact⟨.bl _,H,I,rfl,by simpa using q⟩
def b1j(ho:OpR X f (b6A X.K neg)):OpS X f (a9j neg):=by
 refine⟨_,ho,λx y H a b d Q ha hb hg q=>?_⟩;unfold a9j at hg;by_cases c:(a.canLay0&&b.canLay0&&decide (a.depth≤60))=true
 ·rw[aB c]at hg;cases hg
  rw[av,av]at c;exact⟨a,b,ha,hb,c.1.1,c.1.2,aN c.2,q _ (by simp only[imm]) λ_=>den_bool⟩
 ·rw[aI c]at hg;cases hg
def os_eq(hu:X.A.units+64<cV):OpS X (bS .Eq) dEq:=b1j (b1h hu)
def b8y(hu:X.A.units+64<cV):OpS X (bS .NotEq) dNe:=b1j (b1i hu)
def a4A(h:Den K H x a):decide (x=V.non)=isN a:=by
 cases a with
 |none=>rw[h.none_inv];rfl
 |bool b=>rw[h.bool_inv];rfl
 |int b=>rw[h.int_inv];rfl
 |str b=>rw[h.str_inv];rfl
 |list ds=>obtain⟨a,xs,rfl,_⟩:=h.list_inv;rfl
 |tuple ds=>obtain⟨a,xs,rfl,_⟩:=h.tup_inv;rfl
 |dict kvs=>
  obtain⟨a,es,rfl,_⟩:=h.dict_inv;rfl
def b1k:OpS X (bS .Is) (N1 false):=by
 refine⟨_,b6o,λx y H a b d Q ha hb hg q=>?_⟩;unfold N1 at hg;by_cases c:isN b=true
 ·rw[aB c]at hg;cases hg
  have e:=a4A hb;rw[c]at e;refine⟨aN e,?_⟩;rw[a4A ha];have:=q (.bl (false !=isN a)) (by simp only[imm]) λ_=>den_bool
  simpa using this
 ·rw[aI c]at hg;cases hg
def a8f:OpS X (bS .IsNot) (N1 true):=by
 refine⟨_,b3B,λx y H a b d Q ha hb hg q=>?_⟩;unfold N1 at hg;by_cases c:isN b=true
 ·rw[aB c]at hg;cases hg
  have e:=a4A hb;rw[c]at e;refine⟨aN e,?_⟩;rw[a4A ha];have:=q (.bl (true !=isN a)) (by simp only[imm]) λ_=>den_bool
  simpa using this
 ·rw[aI c]at hg;cases hg
def b6B:OpS X (bS .Is) (b6z false):=by
 refine⟨_,b6x,λx y H a b d Q ha hb hg q=>?_⟩;cases a with
 |bool i=>
  cases b with
  |bool j=>
   cases hg
   refine⟨i,j,ha.bool_inv,hb.bool_inv,?_⟩;have:=q (.bl (false !=(i==j))) (by simp only[imm]) λ_=>den_bool
   simpa using this
  |_=>cases hg
 |_=>cases hg
end
inductive Md where
 |dead|own (u:Ty)|exc|keys (kt:Bool)|pin (v:V)|fn (Φ:Hp→V→Prop)
def ExcAt(a C:au):HO:=.ext λh=>∃o,h.get? a=el o∧o.cls=.ref C
def SlotR(K:ag)(H:Hp)(F:List au)(m:Md)(o:Option V)(d:D)(f:List au):Prop:=
 match m with
 |.dead=>f=[]
 |.own u=>∃v,o=el v∧Own K H F u v d f
 |.exc=>f=[]∧∃v,o=el v∧((v=.non∧d=.none)∨∃a C n,v=.ref a∧d=.str n∧cut H F a=el (ExcAt a C)∧gB K bP n=el (el (.ref C)))
 |.keys kt=>f=[]∧∃a es kvs,o=el (.ref a)∧d=.dict kvs∧cut H F a=el (c6 a es)∧es.map (·.1)=kvs.map (·.1)∧∀e∈es,keyOk kt e.1∧Den K (cut H F) e.2.1 e.1
 |.pin v=>f=[]∧o=el v
 |.fn Φ=>f=[]∧∃v,o=el v∧∀H',Same (cut H F) H'→Φ H' v
def StAll(K:ag)(H:Hp)(F:List au):List Md→List D→L2.St→List au→Prop
 |[],ρ,σ,fp=>ρ=[]∧σ=[]∧fp=[]
 |m::M,ρ,σ,fp=>∃d ρ' o σ' f g,ρ=d::ρ'∧σ=o::σ'∧fp=f++g∧SlotR K H F m o d f∧StAll K H F M ρ' σ' g
section
variable {K:ag}{H H':Hp}{F F':List au}
theorem SlotR.frame(h:SlotR K H F m o d f)(e:Same (cut H F) (cut H' F'))(k:∀a∈f,H' a=H a):SlotR K H' F' m o d f:=by
 cases m with
 |dead=>exact h
 |own u=>
  obtain⟨v,rfl,h⟩:=h;exact⟨v,rfl,h.frame e u k⟩
 |exc=>
  obtain⟨h0,v,h1,h2⟩:=h;refine⟨h0,v,h1,h2.imp (λz=>z) λ⟨a,C,n,z1,z2,z3,z4⟩=>⟨a,C,n,z1,z2,e _ _ z3,z4⟩⟩
 |keys kt=>
  obtain⟨h0,a,es,kvs,h1,h2,h3,h4,h5⟩:=h;exact⟨h0,a,es,kvs,h1,h2,e _ _ h3,h4,λx hx=>⟨(h5 x hx).1,(h5 x hx).2.up e⟩⟩
 |pin v=>exact h
 |fn Φ=>obtain⟨h0,v,h1,h2⟩:=h;exact⟨h0,v,h1,λH2 e2=>h2 H2 (e.trans e2)⟩
def k7(h:SlotR K H F m o d f)(q:StAll K H F M ρ σ g):StAll K H F (m::M) (d::ρ) (o::σ) (f++g):=by
 simp only[StAll];exact⟨d,ρ,o,σ,f,g,rfl,rfl,rfl,h,q⟩
def J8:StAll K H F [] [] [] []:=by simp only[StAll];exact⟨trivial,trivial,trivial⟩
theorem StAll.frame:∀{M:List Md} {ρ:List D} {σ:L2.St} {fp:List au},StAll K H F M ρ σ fp→Same (cut H F) (cut H' F')→(∀a∈fp,H' a=H a)→StAll K H' F' M ρ σ fp
 |[],_,_,_,h,_,_=>by simpa only [StAll]using h
 |m::M,_,_,_,h,e,k=>by
  simp only[StAll]at h;obtain⟨d,ρ,o,σ,f,g,rfl,rfl,rfl,h1,h2⟩:=h;exact k7 (h1.frame e λa ha=>k a (aL _ ha)) (StAll.frame h2 e λa ha=>k a (ax _ ha))
theorem StAll.len:∀{M:List Md} {ρ:List D} {σ:L2.St} {fp:List au},StAll K H F M ρ σ fp→ρ.length=M.length∧σ.length=M.length
 |[],_,_,_,h=>by simp only[StAll]at h;obtain⟨rfl,rfl,_⟩:=h;exact⟨rfl,rfl⟩
 |m::M,_,_,_,h=>by
  simp only[StAll]at h;obtain⟨d,ρ,o,σ,f,g,rfl,rfl,rfl,_,h2⟩:=h;obtain⟨a,b⟩:=StAll.len h2;exact⟨by rw[bh,bh,a],by rw[bh,bh,b]⟩
theorem StAll.at_:∀{M:List Md} {ρ:List D} {σ:L2.St} {fp:List au} {i:Nat} {m:Md},StAll K H F M ρ σ fp→M[i]?=el m→
  ∃d o f pre post,ρ[i]?=el d∧σ[i]?=el o∧SlotR K H F m o d f∧fp=pre++(f++post)∧
   ∀(H':Hp) (F':List au) (m':Md) (d':D) (o':Option V) (f':List au),(∀a∈pre++post,H' a=H a)→Same (cut H F) (cut H' F')→SlotR K H' F' m' o' d' f'→
    StAll K H' F' (M.set i m') (ρ.set i d') (σ.set i o') (pre++(f'++post))
 |[],_,_,_,i,m,_,e=>by simp at e
 |m0::M,_,_,_,0,m,h,e=>by
  simp only[StAll]at h;obtain⟨d,ρ,o,σ,f,g,rfl,rfl,rfl,h1,h2⟩:=h;have:m0=m:=by simpa using e
  subst this;refine⟨d,o,f,[],g,rfl,rfl,h1,rfl,λH' F' m' d' o' f' k e' s=>?_⟩;show StAll K H' F' (m'::M) (d'::ρ) (o'::σ) (f'++g);exact k7 s (h2.frame e' k)
 |m0::M,_,_,_,i+1,m,h,e=>by
  simp only[StAll]at h;obtain⟨d,ρ,o,σ,f,g,rfl,rfl,rfl,h1,h2⟩:=h;obtain⟨d1,o1,f1,pre,post,e1,e2,e3,e4,e5⟩:=StAll.at_ (i:=i) h2 (by simpa using e);subst e4;refine⟨d1,o1,f1,f++pre,post,by simpa using e1,by simpa using e2,e3,by rw[bp],λH' F' m' d' o' f' k e' s=>?_⟩;rw[bp];refine k7 (h1.frame e' λa ha=>k a ?_) (e5 H' F' m' d' o' f' (λa ha=>k a ?_) e' s)
  ·rw[bp];exact aL _ ha
  ·rw[bp];exact ax _ ha
end
structure StE (K:ag) (M:List Md) (ρ:List D) (σ:L2.St) (H P:Hp) (F:List au):Prop where
 all:∃G,StAll K H F M ρ σ G∧∀a∈G,a∈F
 lst:∀a∈F,∃ys:MuO,H a=el ys.1
 prot:Same P (cut H F)
structure StR (K:ag) (M:List Md) (ρ:List D) (σ:L2.St) (H P:Hp) (F:List au):Prop where
 all:∃G,StAll K H F M ρ σ G∧G.Nodup∧∀a∈G,a∈F
 lst:∀a∈F,∃ys:MuO,H a=el ys.1
 prot:Same P (cut H F)
section
variable {K:ag}{M:List Md}{ρ:List D}{σ:L2.St}{H H' P:Hp}{F:List au}
def StR.toE(h:StR K M ρ σ H P F):StE K M ρ σ H P F:=⟨let⟨G,a,_,b⟩:=h.all;⟨G,a,b⟩,h.lst,h.prot⟩
def StE.keep(h:StE K M ρ σ H P F)(e:Same H H'):∀a∈F,H' a=H a:=λa ha=>by
 obtain⟨ys,q⟩:=h.lst a ha;rw[q,e _ _ q]
def StE.lst'(h:StE K M ρ σ H P F)(e:Same H H'):∀a∈F,∃ys:MuO,H' a=el ys.1:=λa ha=>by
 obtain⟨ys,q⟩:=h.lst a ha;exact⟨ys,e _ _ q⟩
def a0d(e:Same H H')(hf:∀a∈fp,H a=p4):Same (cut H F) (cut H' (fp++F)):=K4 e λa o ha jW=>by
 rcases aF.mp jW with z|z
 ·rw[hf a z]at ha;cases ha
 ·exact z
def StE.more(h:StE K M ρ σ H P F)(e:Same H H')(hf:∀a∈fp,H a=p4)(hl:∀a∈fp,∃ys:MuO,H' a=el ys.1):StE K M ρ σ H' P (fp++F):=by
 obtain⟨G,h1,h3⟩:=h.all;have hc:Same (cut H F) (cut H' (fp++F)):=a0d e hf;refine⟨⟨G,h1.frame hc λa ha=>h.keep e a (h3 a ha),λa ha=>ax _ (h3 a ha)⟩,λa ha=>?_,h.prot.trans hc⟩;rcases aF.mp ha with z|z
 ·exact hl a z
 ·exact h.lst' e a z
def StE.grow(h:StE K M ρ σ H P F)(e:Same H H'):StE K M ρ σ H' P F:=h.more (fp:=[]) e (λa ha=>(nomatch ha)) λa ha=>(nomatch ha)
theorem StR.more(h:StR K M ρ σ H P F)(e:Same H H')(hf:∀a∈fp,H a=p4)(hl:∀a∈fp,∃ys:MuO,H' a=el ys.1):StR K M ρ σ H' P (fp++F):=by
 obtain⟨G,h1,h2,h3⟩:=h.all;have S:=h.toE.more e hf hl;exact⟨⟨G,h1.frame (a0d e hf) λa ha=>h.toE.keep e a (h3 a ha),h2,λa ha=>ax _ (h3 a ha)⟩,S.lst,S.prot⟩
def StR.grow(h:StR K M ρ σ H P F)(e:Same H H'):StR K M ρ σ H' P F:=h.more (fp:=[]) e (λa ha=>(nomatch ha)) λa ha=>(nomatch ha)
def z8(h:ρ[i]?=el d):ρ.getD i x=d:=by rw[aM,h];rfl
def StE.get(h:StE K M ρ σ H P F)(hm:M[i]?=el (.own u)):∃v f,σ[i]?=el (el v)∧Own K H F u v (ρ.getD i .none) f∧∀a∈f,a∈F:=by
 obtain⟨G,h1,h3⟩:=h.all;obtain⟨d,o,f,pre,post,e1,e2,⟨v,rfl,q⟩,e4,_⟩:=h1.at_ hm;refine⟨v,f,e2,by rw[z8 e1];exact q,λa ha=>h3 a ?_⟩;rw[e4];exact ax _ (aL _ ha)
theorem StAll.pick(h:StAll K H F M ρ σ G)(hG:∀a∈G,a∈F):∀js:List Nat,∃G',StAll K H F (js.map λj=>M.getD j .dead) (js.map λj=>ρ.getD j .none) (js.map λj=>(σ[j]?).getD p4) G'∧∀a∈G',a∈F
 |[]=>⟨[],J8,λa ha=>(nomatch ha)⟩
 |j::js=>by
  obtain⟨G',q,hq⟩:=StAll.pick h hG js;cases e:M[j]? with
  |none=>
   refine⟨[]++G',?_,λa ha=>hq a (by simpa using ha)⟩;have:M.getD j .dead=.dead:=by rw[aM,e];rfl
   rw[aA,aA,aA,this];exact k7 rfl q
  |some m=>
   obtain⟨d,o,f,pre,post,e1,e2,e3,e4,_⟩:=h.at_ e;refine⟨f++G',?_,λa ha=>?_⟩
   ·rw[aA,aA,aA,show M.getD j .dead=m by rw[aM,e];rfl,z8 e1,e2];exact k7 e3 q
   ·rcases aF.mp ha with z|z
    ·exact hG a (by rw[e4];exact ax _ (aL _ z))
    ·exact hq a z
def N6{pre f post:List au}(h:(pre++(f++post)).Nodup):(pre++post).Nodup:=
 h.sublist (List.Sublist.append (Bu _) (List.sublist_append_right _ _))
def mem_mid{pre f post:List au}{a:au}(h:a∈pre++post):a∈pre++(f++post):=by
 rcases aF.mp h with h|h
 ·exact aL _ h
 ·exact ax _ (ax _ h)
def a0L{pre f post:List au}(h:(pre++post).Nodup)(hf:f.Nodup)(d:∀a∈f,a∉pre++post):(pre++(f++post)).Nodup:=by
 rw[aZ]at h ⊢;obtain⟨h1,h2,h3⟩:=h;refine⟨h1,?_,λa ha b hb=>?_⟩
 ·rw[aZ];exact⟨hf,h2,λa ha b hb e=>d a ha (e▸ax _ hb)⟩
 ·rcases aF.mp hb with z|z
  ·intro e;exact d b z (e▸aL _ ha)
  ·exact h3 a ha b z
def a4B{pre f post:List au}{a:au}(h:a∈pre++(f++post)):a∈f∨a∈pre++post:=by
 rcases aF.mp h with h|h
 ·exact .inr (aL _ h)
 ·rcases aF.mp h with h|h
  ·exact .inl h
  ·exact .inr (ax _ h)
def a3C{pre f post:List au}(h:(pre++(f++post)).Nodup):∀a∈f,a∉pre++post:=λa ha z=>by
 rw[aZ,aZ]at h;rcases aF.mp z with z|z
 ·exact h.2.2 a z a (aL _ ha) rfl
 ·exact h.2.1.2.2 a ha a z rfl
theorem StR.set{H1:Hp}{i:Nat}{m:Md}{u:Ty}{v:V}{d:D}{fp:List au}(h:StR K M ρ σ H P F)(hm:M[i]?=el m)(e:Same H H1)(hv:Own K H1 (fp++F) u v d fp)(hn:fp.Nodup)(hf:∀a∈fp,H a=p4) :
  StR K (M.set i (.own u)) (ρ.set i d) (σ.set i (el v)) H1 P (fp++F):=by
 obtain⟨G,h1,h2,h3⟩:=h.all;have S:=h.more e hf (hv.lst u);obtain⟨d0,o,f,pre,post,e1,e2,e3,e4,e5⟩:=h1.at_ hm;have jl:=h2;rw[e4]at jl;have hG:∀a∈pre++post,a∈F:=λa ha=>h3 a (by rw[e4];exact mem_mid ha)
 have hc:Same (cut H F) (cut H1 (fp++F)):=K4 e λa o ha jW=>by
  rcases aF.mp jW with z|z
  ·rw[hf a z]at ha;cases ha
  ·exact z
 refine⟨⟨pre++(fp++post),e5 H1 _ (.own u) d (el v) fp (λa ha=>h.toE.keep e a (hG a ha)) hc ⟨v,rfl,hv⟩,a0L (N6 jl) hn λa ha z=>?_,λa ha=>?_⟩,S.lst,S.prot⟩
 ·obtain⟨ys,q⟩:=h.lst a (hG a z);rw[hf a ha]at q;cases q
 ·rcases a4B ha with z|z
  ·exact aL _ z
  ·exact ax _ (hG a z)
def StR.kill{i:Nat}{m:Md}(h:StR K M ρ σ H P F)(hm:M[i]?=el m)(d:D)(o:Option V):StR K (M.set i .dead) (ρ.set i d) (σ.set i o) H P F:=by
 obtain⟨G,h1,h2,h3⟩:=h.all;obtain⟨d0,o0,f,pre,post,e1,e2,e3,e4,e5⟩:=h1.at_ hm;rw[e4]at h2;exact⟨⟨pre++([]++post),e5 H F .dead d o [] (λ_ _=>rfl) (Same.refl _) rfl,N6 h2,λa ha=>h3 a (by rw[e4];exact mem_mid ha)⟩,h.lst,h.prot⟩
def set_same{α:Type}{l:List α}{i:Nat}{x:α}(h:l[i]?=el x):l.set i x=l:=jH λj=>by
 rw[List.getElem?_set]
 split
 ·next hj=>
  subst hj
  split
  ·exact h.symm
  ·next hh=>exact (dY (by lia)).symm
 ·rfl
theorem StR.dead{i:Nat}{m:Md}(h:StR K M ρ σ H P F)(hm:M[i]?=el m):StR K (M.set i .dead) ρ σ H P F:=by
 obtain⟨G,h1,_⟩:=h.all;obtain⟨d0,o0,f,pre,post,e1,e2,_⟩:=h1.at_ hm;have:=h.kill hm d0 o0
 rwa[set_same e1,set_same e2]at this
def Own.freeze(h:Own K H F u v d fp)(hs:∀a∈F',a∈F)(hd:∀a∈fp,a∉F'):Own K H F' .f v d []:=by
 have key:∀(u:Ty) {v:V} {d:D} {fp:List au},Own K H F u v d fp→(∀a∈fp,a∉F')→Den K (cut H F') v d:=by
  intro u;refine Ty.rec (motive_1:=λu=>∀{v:V} {d:D} {fp:List au},Own K H F u v d fp→(∀a∈fp,a∉F')→Den K (cut H F') v d)
   (motive_2:=λus=>∀{xs:List V} {ds:List D} {fp:List au},OwnTs K H F us xs ds fp→(∀a∈fp,a∉F')→DenAll K (cut H F') xs ds) ?_ ?_ ?_ ?_ ?_ ?_ ?_ u
  ·intro v d fp h _;simp only[Own]at h;exact h.2.2.up (D7 hs)
  ·intro v d fp h _;simp only[Own]at h;exact h.2.up (D7 hs)
  ·intro u ih v d fp h hd;simp only[Own]at h;rcases h with⟨_,_,h⟩|⟨a,xs,ds,fs,rfl,h1,rfl,rfl,h2⟩
   ·exact h.up (D7 hs)
   ·refine den_list (.inl (.inl (j5 (hd a aj) h1))) (ListAll.den (R:=λv d f=>Own K H F u v d f∧∀a∈f,a∉F') (λv d f q=>ih q.1 q.2) (h2.imp λv d f hf _ q=>⟨q,λb hb=>hd b (aq _ (hf b hb))⟩))
  ·intro us ih v d fp h hd;simp only[Own]at h;obtain⟨a,xs,ds,rfl,h1,h0,rfl,h2⟩:=h;exact den_tup (SqT.of (j5 (λz=>h0 (hs a z)) h1)) (ih h2 hd)
  ·intro kt u ih v d fp h hd;simp only[Own]at h;obtain⟨a,es,ds,fs,rfl,h1,rfl,rfl,h3,h2⟩:=h;exact a3B (j5 (hd a aj) h1) (λe he=>(h3.2 e he).2.up (D7 hs)) (ListAll.den (R:=λv d f=>Own K H F u v d f∧∀a∈f,a∉F') (λv d f q=>ih q.1 q.2) (h2.imp λv d f hf _ q=>⟨q,λb hb=>hd b (aq _ (hf b hb))⟩))
  ·intro xs ds fp h _;simp only[OwnTs]at h;obtain⟨rfl,rfl,_⟩:=h;exact denAll_nil
  ·intro u us Cv Cu xs ds fp h hd;simp only[OwnTs]at h;obtain⟨v,r,d,e,f,g,rfl,rfl,rfl,h1,h2⟩:=h;exact denAll_cons (Cv h1 λa ha=>hd a (aL _ ha)) (Cu h2 λa ha=>hd a (ax _ ha))
 simp only[Own];exact⟨trivial,key u h hd⟩
theorem StR.freeze{i:Nat}{u:Ty}(h:StR K M ρ σ H P F)(hm:M[i]?=el (.own u)):∃F',StR K (M.set i (.own .f)) ρ σ H P F':=by
 obtain⟨G,h1,h2,h3⟩:=h.all;obtain⟨d,o,f,pre,post,e1,e2,⟨v,rfl,e3⟩,e4,e5⟩:=h1.at_ hm;rw[e4]at h2;have jf:∀a∈F.filter (λa=>decide (a∉f)),a∈F:=λa ha=>(bu.mp ha).1
 have sP:∀a∈f,a∉F.filter (λa=>decide (a∉f)):=λa ha z=>absurd ha (aN (bu.mp z).2)
 have hc:Same (cut H F) (cut H (F.filter (λa=>decide (a∉f)))):=D7 jf;have q:=e5 H _ (.own .f) d (el v) [] (λ_ _=>rfl) hc ⟨v,rfl,e3.freeze jf sP⟩;rw[set_same e1,set_same e2]at q;refine⟨_,⟨_,q,N6 h2,λa ha=>bu.mpr ⟨h3 a (by rw[e4];exact mem_mid ha),aH λz=>a3C h2 a z ha⟩⟩,λa ha=>h.lst a (jf a ha),h.prot.trans hc⟩
end
inductive Cat where
 |new (u:Ty)|bor (u:Ty)|tmp
def ResR(K:ag)(c:Cat)(H H':Hp)(F:List au)(v:V)(d:D):Prop:=
 match c with
 |.new u=>∃fp,Own K H' (fp++F) u v d fp∧fp.Nodup∧∀a∈fp,H a=p4
 |.bor u=>∃fp,Own K H' F u v d fp∧∀a∈fp,a∈F
 |.tmp=>Den K H' v d
section
variable {K:ag}{c:Cat}{H H0 H' H1 H2:Hp}{F:List au}{v:V}{d:D}
theorem ResR.den(r:ResR K c H H' F v d):Den K H' v d:=by
 cases c with
 |new u=>obtain⟨fp,h,_⟩:=r;exact h.den u
 |bor u=>obtain⟨fp,h,_⟩:=r;exact h.den u
 |tmp=>exact r
def Own.grow(h:Own K H1 F u v d fp)(e:Same H1 H2):Own K H2 F u v d fp:=
 h.frame (A2 e) u λa ha=>by obtain⟨ys,q⟩:=h.lst u a ha;rw[q,e _ _ q]
theorem ResR.up(r:ResR K c H H1 F v d)(e:Same H1 H2):ResR K c H H2 F v d:=by
 cases c with
 |new u=>obtain⟨fp,h,q⟩:=r;exact⟨fp,h.grow e,q⟩
 |bor u=>obtain⟨fp,h,q⟩:=r;exact⟨fp,h.grow e,q⟩
 |tmp=>exact Den.up r e
def ResR.early(r:ResR K c H H1 F v d)(e:Same H0 H):ResR K c H0 H1 F v d:=by
 cases c with
 |new u=>obtain⟨fp,h,n,q⟩:=r;exact⟨fp,h,n,λa ha=>e.free (q a ha)⟩
 |bor u=>exact r
 |tmp=>exact r
def D8(hi:imm d=true)(hd:Den K H' v d)(hF:∀a∈F,∃ys:MuO,H' a=el ys.1):ResR K (.new .i) H H' F v d:=by
 refine⟨[],?_,bA,λa ha=>(nomatch ha)⟩;simp only[Own,cA];exact⟨trivial,hi,hd.imm_out hF d hi⟩
def T6(h:Own K H F .i v d fp):fp=[]∧imm d=true∧Den K (cut H F) v d:=by simpa only [Own]using h
def a8g(h:Own K H F .f v d fp):fp=[]∧Den K (cut H F) v d:=by simpa only [Own]using h
end
abbrev EvE:=List D→Option D
abbrev EvT:=List D→Option Bool
noncomputable def spE(K:ag)(M:List Md)(f:EvE)(c:Cat):TE:=λσ H Q=>∃(ρ:List D) (P:Hp) (F:List au) (d:D),StE K M ρ σ H P F∧f ρ=el d∧∀v H',Same H H'→ResR K c H H' F v d→Q v H'
noncomputable def PX(X:Cx)(M:List Md)(e:Expr)(f:EvE)(c:Cat):Prop:=PE X e (spE X.K M f c)
def PX.out{X:Cx}{M:List Md}{e:Expr}{f:EvE}{c:Cat}(h:PX X M e f c) :
  ∃t,PE X e t∧∀(ρ:List D) (σ:L2.St) (H P:Hp) (F:List au) (d:D) (Q:VK),StE X.K M ρ σ H P F→f ρ=el d→(∀v H',Same H H'→ResR X.K c H H' F v d→Q v H')→t σ H Q:=
 ⟨_,h,λρ _ _ P F d _ S hf q=>⟨ρ,P,F,d,S,hf,q⟩⟩
def PX.mk{X:Cx}{M:List Md}{e:Expr}{f:EvE}{c:Cat}
  (h:∃t,PE X e t∧∀(ρ:List D) (σ:L2.St) (H P:Hp) (F:List au) (d:D) (Q:VK),StE X.K M ρ σ H P F→f ρ=el d→(∀v H',Same H H'→ResR X.K c H H' F v d→Q v H')→t σ H Q):PX X M e f c:=by
 obtain⟨t,p,q⟩:=h;exact λpins s σ H Q I ⟨ρ,P,F,d,S,hf,z⟩=>p pins s σ H Q I (q ρ σ H P F d Q S hf z)
noncomputable def spT(K:ag)(M:List Md)(g:EvT):TT:=λσ H Q=>∃(ρ:List D) (P:Hp) (F:List au) (b:Bool),StE K M ρ σ H P F∧g ρ=el b∧∀H',Same H H'→Q b H'
noncomputable def PTX(X:Cx)(M:List Md)(e:Expr)(g:EvT):Prop:=PT X e (spT X.K M g)
def PTX.out{X:Cx}{M:List Md}{e:Expr}{g:EvT}(h:PTX X M e g) :
  ∃t,PT X e t∧∀(ρ:List D) (σ:L2.St) (H P:Hp) (F:List au) (b:Bool) (Q:Bool→Hp→Prop),StE X.K M ρ σ H P F→g ρ=el b→(∀H',Same H H'→Q b H')→t σ H Q:=
 ⟨_,h,λρ _ _ P F b _ S hf q=>⟨ρ,P,F,b,S,hf,q⟩⟩
def PTX.mk{X:Cx}{M:List Md}{e:Expr}{g:EvT}
  (h:∃t,PT X e t∧∀(ρ:List D) (σ:L2.St) (H P:Hp) (F:List au) (b:Bool) (Q:Bool→Hp→Prop),StE X.K M ρ σ H P F→g ρ=el b→(∀H',Same H H'→Q b H')→t σ H Q):PTX X M e g:=by
 obtain⟨t,p,q⟩:=h;exact λpins s σ H Q I ⟨ρ,P,F,d,S,hf,z⟩=>p pins s σ H Q I (q ρ σ H P F d Q S hf z)
noncomputable def PWX(X:Cx)(M:List Md)(e:Expr)(g:EvT):Prop:=PW X e (spT X.K M g)
def PWX.out{X:Cx}{M:List Md}{e:Expr}{g:EvT}(h:PWX X M e g) :
  ∃t,PW X e t∧∀(ρ:List D) (σ:L2.St) (H P:Hp) (F:List au) (b:Bool) (Q:Bool→Hp→Prop),StE X.K M ρ σ H P F→g ρ=el b→(∀H',Same H H'→Q b H')→t σ H Q:=
 ⟨_,h,λρ _ _ P F b _ S hf q=>⟨ρ,P,F,b,S,hf,q⟩⟩
def PWX.mk{X:Cx}{M:List Md}{e:Expr}{g:EvT}
  (h:∃t,PW X e t∧∀(ρ:List D) (σ:L2.St) (H P:Hp) (F:List au) (b:Bool) (Q:Bool→Hp→Prop),StE X.K M ρ σ H P F→g ρ=el b→(∀H',Same H H'→Q b H')→t σ H Q):PWX X M e g:=by
 obtain⟨t,p,q⟩:=h;exact λwhole pins s σ H Q I ⟨ρ,P,F,d,S,hf,z⟩=>p whole pins s σ H Q I (q ρ σ H P F d Q S hf z)
abbrev EvA:=List D→Option (List D)
noncomputable def PAX(X:Cx)(M:List Md)(es:List Expr)(f:EvA):Prop:=
 ∃t,PA X es t∧∀(ρ:List D) (σ:L2.St) (H P:Hp) (F:List au) (ds:List D) (Q:List V→Hp→Prop),StE X.K M ρ σ H P F→f ρ=el ds→(∀vs H',Same H H'→DenAll X.K H' vs ds→Q vs H')→t σ H Q
noncomputable def PAN(X:Cx)(M:List Md)(es:List Expr)(f:EvA)(us:List Ty):Prop:=
 ∃t,PA X es t∧∀(ρ:List D) (σ:L2.St) (H P:Hp) (F:List au) (ds:List D) (Q:List V→Hp→Prop),StE X.K M ρ σ H P F→f ρ=el ds→
  (∀vs H' fp,Same H H'→OwnTs X.K H' (fp++F) us vs ds fp→fp.Nodup→(∀a∈fp,H a=p4)→Q vs H')→t σ H Q
noncomputable def b7(i:Nat):EvE:=λρ=>el (ρ.getD i .none)
noncomputable def eC(d:D):EvE:=λ_=>el d
noncomputable def e1(g:D→Option D)(a:EvE):EvE:=λρ=>(a ρ).bind g
noncomputable def e2(g:D→D→Option D)(a b:EvE):EvE:=λρ=>(a ρ).bind λx=>(b ρ).bind λy=>g x y
def asB:D→Option Bool
 |.bool b=>el b
 |_=>p4
noncomputable def a4C(a b:EvE):EvE:=λρ=>(a ρ).bind λx=>(asB x).bind λk=>if k then b ρ else el (.bool false)
noncomputable def eOr(a b:EvE):EvE:=λρ=>(a ρ).bind λx=>(asB x).bind λk=>if k then el (.bool true) else b ρ
noncomputable def b3T(a:EvE):EvE:=λρ=>(a ρ).bind λx=>(asB x).bind λk=>el (.bool !k)
noncomputable def eIf(c:EvT)(a b:EvE):EvE:=λρ=>(c ρ).bind λk=>if k then a ρ else b ρ
noncomputable def eCh(g g':D→D→Option D)(a b c:EvE):EvE:=λρ=>(a ρ).bind λx=>(b ρ).bind λy=>(g x y).bind λz=>(asB z).bind λk=>if k then (c ρ).bind λw=>g' y w else el (.bool false)
def tr:D→Option Bool
 |.none=>el false
 |.bool b=>el b
 |.int i=>el (i !=0)
 |.str x=>if x.length≤aS then el ((x.length:Int)!=0) else p4
 |.list ds=>el !ds.isEmpty
 |.tuple ds=>el !ds.isEmpty
 |.dict _=>p4
noncomputable def tV(a:EvE):EvT:=λρ=>(a ρ).bind tr
noncomputable def tB(a:EvE):EvT:=λρ=>(a ρ).bind asB
noncomputable def tNo(a:EvT):EvT:=λρ=>(a ρ).bind λk=>el !k
noncomputable def tAn(a b:EvT):EvT:=λρ=>(a ρ).bind λk=>if k then b ρ else el false
noncomputable def W8(a b:EvT):EvT:=λρ=>(a ρ).bind λk=>if k then el true else b ρ
def g8:List D→Option (List D):=λ_=>el []
noncomputable def b8(a:EvE)(r:List D→Option (List D)):List D→Option (List D):=λρ=>(a ρ).bind λx=>(r ρ).bind λxs=>el (x::xs)
def K6(h:asB d=el k):d=.bool k:=by
 cases d with
 |bool b=>cases h;rfl
 |_=>cases h
def bnd{α β:Type}{o:Option α}{f:α→Option β}{b:β}(h:o.bind f=el b):∃a,o=el a∧f a=el b:=sy.mp h
section
variable {X:Cx}{M:List Md}{a b e e':Expr}{es rest:List Expr}{f g fa fb fc:EvE}{ga gb:EvT}{c ca cb cc:Cat}{u:Ty}{us:List Ty}{pos:ff}
def PX.imp(h:PX X M e f c)(k:∀(K:ag) (H H':Hp) (F:List au) (v:V) (d:D),(∀a∈F,∃ys:MuO,H a=el ys.1)→Same H H'→ResR K c H H' F v d→ResR K c' H H' F v d):PX X M e f c':=by
 obtain⟨t,p,q⟩:=h.out;exact .mk ⟨t,p,λρ σ H P F d Q S hf z=>q ρ σ H P F d Q S hf λv H' e r=>z v H' e (k _ _ _ _ _ _ S.lst e r)⟩
def PX.newf(h:PX X M e f (.bor .f)):PX X M e f (.new .f):=h.imp λK H H' F v d _ _ ⟨fp,o,_⟩=>by
 obtain⟨rfl,_⟩:=a8g o;exact⟨[],o,bA,λa ha=>(nomatch ha)⟩
def PX.newi(h:PX X M e f (.bor .i)):PX X M e f (.new .i):=h.imp λK H H' F v d _ _ ⟨fp,o,_⟩=>by
 obtain⟨rfl,_⟩:=T6 o;exact⟨[],o,bA,λa ha=>(nomatch ha)⟩
def PX.itof(h:PX X M e f (.new .i)):PX X M e f (.new .f):=h.imp λK H H' F v d _ _ ⟨fp,o,n,z⟩=>by
 obtain⟨rfl,_,q⟩:=T6 o;refine⟨[],?_,n,z⟩;simp only[Own];exact⟨trivial,q⟩
def PX.itol(h:PX X M e f (.new .i)):PX X M e f (.new (.l u)):=h.imp λK H H' F v d _ _ ⟨fp,o,n,z⟩=>by
 obtain⟨rfl,w,q⟩:=T6 o;refine⟨[],?_,n,z⟩;simp only[Own];exact .inl ⟨trivial,w,q⟩
def PX.frz(h:PX X M e f (.new u)):PX X M e f (.new .f):=h.imp λK H H' F v d hF _ ⟨fp,o,n,z⟩=>by
 refine⟨[],o.freeze (λa ha=>ax _ (by simpa using ha)) (λa ha Es=>?_),bA,λa ha=>(nomatch ha)⟩;obtain⟨ys,q⟩:=hF a (by simpa using Es);rw[z a ha]at q;cases q
def K7(i:Nat)(hN:X.N[i]?=el x:=by rfl)(hv:Vis X.env.scope x:=by first|exact cn rfl|exact bY (cn rfl)|exact bY (bY rfl))(hd:(x==("__debug__":bC))=false:=by decide)
  (iJ:(x==("__classdict__":bC))=false:=by decide) (hm:M[i]?=el (.own u):=by rfl):PX X M (.Name x pos) (b7 i) (.bor u):=by
 refine .mk ⟨_,C0 hN hv hd iJ,λρ σ H P F d Q S hf q=>?_⟩;cases hf
 obtain⟨v,fp,e,o,sub⟩:=S.get hm;exact⟨v,e,q v H (Same.refl _) ⟨fp,o,sub⟩⟩
def a0e(h:PE X e (tC v))(hi:imm d=true)(hd:∀H,Den X.K H v d):PX X M e (eC d) (.new .i):=by
 refine .mk ⟨_,h,λρ σ H P F d' Q S hf q=>?_⟩;cases hf
 exact q v H (Same.refl _) (D8 hi (hd H) S.lst)
def e6{i j}:PX X M (.Constant (.int i) j pos) (eC (.int i)) (.new .i):=a0e b5S (by simp only[imm]) λ_=>den_int
def X4{k j}:PX X M (.Constant (.bool k) j pos) (eC (.bool k)) (.new .i):=a0e b8e (by simp only[imm]) λ_=>den_bool
def Q1{j}:PX X M (.Constant .none j pos) (eC .none) (.new .i):=a0e b5T (by simp only[imm]) λ_=>den_none
def b3U(hm:∃t,X.mg x=el (.int i t))(hg:Gl X x:=by rfl)(hd:(x==("__debug__":bC))=false:=by decide):PX X M (.Name x pos) (eC (.int i)) (.new .i):=by
 obtain⟨t,hm⟩:=hm;exact a0e (b3v (v:=.int i) hg hm ⟨_,rfl⟩ hd) (by simp only[imm]) λ_=>den_int
def A6{g:D→D→Option D}{ρ:List D}{d:D}(h:e2 g fa fb ρ=el d):∃x y,fa ρ=el x∧fb ρ=el y∧g x y=el d:=by
 obtain⟨x,h1,h⟩:=bnd h;obtain⟨y,h2,h⟩:=bnd h;exact⟨x,y,h1,h2,h⟩
def i9{g:D→D→Option D}(ho:OpS X (eL op) g)(ha:PX X M a fa ca)(hb:PX X M b fb cb):PX X M (.BinOp a op b pos) (e2 g fa fb) (.new .i):=by
 obtain⟨r,hr,hs⟩:=ho;obtain⟨ta,pa,qa⟩:=ha.out;obtain⟨tb,pb,qb⟩:=hb.out;refine .mk ⟨_,b0T hr pa pb,λρ σ H P F d Q S hf q=>?_⟩;obtain⟨x,y,h1,h2,h3⟩:=A6 hf;exact qa ρ σ H P F x _ S h1 λv H1 e1 r1=>qb ρ σ H1 P F y _ (S.grow e1) h2 λw H2 e2 r2=>hs v w H2 x y d Q (r1.den.up e2) r2.den h3 λz hi hd=>q z H2 (e1.trans e2) (D8 hi (hd H2) (S.lst' (e1.trans e2)))
def a4D{g:D→D→Option D}(ho:OpS X (bS op) g)(ha:PX X M a fa ca)(hb:PX X M b fb cb)(hm:eE op b=false:=by first|exact Y4 _|with_unfolding_all rfl):PX X M (.Compare a [op] [b] pos) (e2 g fa fb) (.new .i):=by
 obtain⟨r,hr,hs⟩:=ho;obtain⟨ta,pa,qa⟩:=ha.out;obtain⟨tb,pb,qb⟩:=hb.out;refine .mk ⟨_,a8c hr pa pb hm,λρ σ H P F d Q S hf q=>?_⟩;obtain⟨x,y,h1,h2,h3⟩:=A6 hf;exact qa ρ σ H P F x _ S h1 λv H1 e1 r1=>qb ρ σ H1 P F y _ (S.grow e1) h2 λw H2 e2 r2=>hs v w H2 x y d Q (r1.den.up e2) r2.den h3 λz hi hd=>q z H2 (e1.trans e2) (D8 hi (hd H2) (S.lst' (e1.trans e2)))
def n4{op:CmpOp}{g:D→D→Option D}(ho:OpS X (bS op) g)(ha:PX X M a fa ca)(hb:PX X M b fb cb)(hm:eE op b=false:=by first|exact Y4 _|with_unfolding_all rfl):PTX X M (.Compare a [op] [b] pos) (tB (e2 g fa fb)):=by
 obtain⟨r,hr,hs⟩:=ho;obtain⟨ta,pa,qa⟩:=ha.out;obtain⟨tb,pb,qb⟩:=hb.out;refine .mk ⟨_,Z9 hr pa pb hm,λρ σ H P F k Q S hf q=>?_⟩;obtain⟨d,hf,hk⟩:=bnd hf;cases K6 hk
 obtain⟨x,y,h1,h2,h3⟩:=A6 hf;exact qa ρ σ H P F x _ S h1 λv H1 e1 r1=>qb ρ σ H1 P F y _ (S.grow e1) h2 λw H2 e2 r2=>hs v w H2 x y _ _ (r1.den.up e2) r2.den h3 λz hi hd=>⟨k,(hd H2).bool_inv,q H2 (e1.trans e2)⟩
def a5v{op tY:CmpOp}{g g':D→D→Option D}{c0:Expr}(ho:OpS X (bS op) g)(nJ:OpS X (bS tY) g')(ha:PX X M a fa ca)(hb:PX X M b fb cb)(hc:PX X M c0 fc cc)(hm:lastMarks [op,tY] [b,c0]=false:=by with_unfolding_all rfl) :
  PX X M (.Compare a [op,tY] [b,c0] pos) (eCh g g' fa fb fc) (.new .i):=by
 obtain⟨r,hr,hs⟩:=ho;obtain⟨r',x_,oR⟩:=nJ;obtain⟨ta,pa,qa⟩:=ha.out;obtain⟨tb,pb,qb⟩:=hb.out;obtain⟨tc,pc,qc⟩:=hc.out;refine .mk ⟨_,b0V hr x_ pa pb pc hm,λρ σ H P F d Q S hf q=>?_⟩;obtain⟨x,h1,hf⟩:=bnd hf;obtain⟨y,h2,hf⟩:=bnd hf;obtain⟨z,h3,hf⟩:=bnd hf;obtain⟨k,h4,hf⟩:=bnd hf;cases K6 h4
 refine qa ρ σ H P F x _ S h1 λv H1 e1 r1=>qb ρ σ H1 P F y _ (S.grow e1) h2 λw H2 e2 r2=>hs v w H2 x y _ _ (r1.den.up e2) r2.den h3 λz hi hd=>⟨k,(hd H2).bool_inv,?_⟩
 cases k with
 |false=>
  have oH:d=.bool false:=(aK hf).symm;subst oH;exact a5r (q _ H2 (e1.trans e2) (D8 (by simp only[imm]) den_bool (S.lst' (e1.trans e2))))
 |true=>
  obtain⟨w',h5,hf⟩:=bnd (show (fc ρ).bind (λw=>g' y w)=el d from hf);exact a5s (qc ρ σ H2 P F w' _ (S.grow (e1.trans e2)) h5 λw3 H3 e3 r3=>oR w w3 H3 y w' d Q (r2.den.up e3) r3.den hf λz hi hd=>q z H3 ((e1.trans e2).trans e3) (D8 hi (hd H3) (S.lst' ((e1.trans e2).trans e3))))
def a2e(h:PX X M a f c):PX X M (.BoolOp op [a] pos) f c:=by
 obtain⟨t,p,q⟩:=h.out;exact .mk ⟨t,b5X p,q⟩
def a0M(ha:PX X M a fa ca)(hb:PX X M (.BoolOp .And (b::rest) pos) fb (.new .i)):PX X M (.BoolOp .And (a::b::rest) pos) (a4C fa fb) (.new .i):=by
 obtain⟨ta,pa,qa⟩:=ha.out;obtain⟨tb,pb,qb⟩:=hb.out;refine .mk ⟨_,b5Y pa pb,λρ σ H P F d Q S hf q=>?_⟩;obtain⟨x,h1,hf⟩:=bnd hf;obtain⟨k,h2,hf⟩:=bnd hf;cases K6 h2
 refine qa ρ σ H P F _ _ S h1 λv H1 e1 r1=>⟨k,r1.den.bool_inv,?_⟩
 cases k with
 |false=>
  have oH:d=.bool false:=(aK hf).symm;subst oH;exact a5r (q _ H1 e1 (D8 (by simp only[imm]) den_bool (S.lst' e1)))
 |true=>exact a5s (qb ρ σ H1 P F d Q (S.grow e1) hf λw H2 e2 r2=>q w H2 (e1.trans e2) (r2.early e1))
def b6C(ha:PX X M a fa ca):PX X M (.UnaryOp .Not a pos) (b3T fa) (.new .i):=by
 obtain⟨ta,pa,qa⟩:=ha.out;refine .mk ⟨_,b5Z pa,λρ σ H P F d Q S hf q=>?_⟩;obtain⟨x,h1,hf⟩:=bnd hf;obtain⟨k,h2,hf⟩:=bnd hf;cases K6 h2
 cases hf
 exact qa ρ σ H P F _ _ S h1 λv H1 e1 r1=>⟨k,r1.den.bool_inv,q _ H1 e1 (D8 (by simp only[imm]) den_bool (S.lst' e1))⟩
def b6D(h:Den K H v d)(ht:tr d=el k):b6q K v H k:=by
 cases d with
 |none=>cases h.none_inv;cases ht;exact rfl
 |bool b=>cases h.bool_inv;cases ht;exact rfl
 |int i=>cases h.int_inv;cases ht;exact rfl
 |str x=>
  cases h.str_inv
  replace ht:(if x.length≤aS then el ((x.length:Int)!=0) else p4)=el k:=ht
  by_cases z:x.length≤aS
  ·rw[aB z]at ht;cases ht
   exact⟨z,rfl⟩
  ·rw[aI z]at ht;cases ht
 |list ds=>
  obtain⟨a,xs,rfl,h1,h2⟩:=h.list_inv;cases ht
  refine .inl ⟨xs,h1.l,?_⟩;have:=h2.length;cases xs<;>cases ds<;>simp_all
 |tuple ds=>
  obtain⟨a,xs,rfl,h1,h2⟩:=h.tup_inv;cases ht
  refine .inr (.inl ⟨xs,h1,?_⟩);have:=h2.length;cases xs<;>cases ds<;>simp_all
 |dict kvs=>cases ht
def a0f(ha:PX X M a fa ca)(he:∀whole,qR a X.env whole=(do let v ←whole;standAt a.pos;nt [v] (uD v)):=by intro _;rfl):PTX X M a (tV fa):=by
 obtain⟨ta,pa,qa⟩:=ha.out;refine .mk ⟨_,b0W pa he,λρ σ H P F k Q S hf q=>?_⟩;obtain⟨x,h1,hf⟩:=bnd hf;exact qa ρ σ H P F _ _ S h1 λv H1 e1 r1=>⟨k,b6D r1.den hf,q H1 e1⟩
def a4E(h:PTX X M a ga):PTX X M (.UnaryOp .Not a pos) (tNo ga):=by
 obtain⟨ta,pa,qa⟩:=h.out;refine .mk ⟨_,b5W pa,λρ σ H P F k Q S hf q=>?_⟩;obtain⟨x,h1,hf⟩:=bnd hf;cases hf
 exact qa ρ σ H P F _ _ S h1 λH1 e1=>q H1 e1
theorem PWX.pt(h:PWX X M e ga):PTX X M e ga:=by
 obtain⟨t,p,q⟩:=h.out;exact .mk ⟨t,p.pt,q⟩
def a5w(h:PTX X M a ga):PWX X M (.BoolOp .And [a] pos) ga:=by
 obtain⟨t,p,q⟩:=h.out;exact .mk ⟨t,b3x p,q⟩
def a4F(h:PTX X M a ga):PWX X M (.BoolOp .Or [a] pos) ga:=by
 obtain⟨t,p,q⟩:=h.out;exact .mk ⟨t,b5U p,q⟩
def a8h(ha:PTX X M a ga)(hb:PWX X M (.BoolOp .And (b::rest) pos) gb):PWX X M (.BoolOp .And (a::b::rest) pos) (tAn ga gb):=by
 obtain⟨ta,pa,qa⟩:=ha.out;obtain⟨tb,pb,qb⟩:=hb.out;refine .mk ⟨_,b5V pa pb,λρ σ H P F k Q S hf q=>?_⟩;obtain⟨x,h1,hf⟩:=bnd hf;refine qa ρ σ H P F _ _ S h1 λH1 e1=>?_
 cases x with
 |false=>cases hf;exact a5r (q H1 e1)
 |true=>exact a5s (qb ρ σ H1 P F k Q (S.grow e1) hf λH2 e2=>q H2 (e1.trans e2))
def a6O(ha:PTX X M a ga)(hb:PWX X M (.BoolOp .Or (b::rest) pos) gb):PWX X M (.BoolOp .Or (a::b::rest) pos) (W8 ga gb):=by
 obtain⟨ta,pa,qa⟩:=ha.out;obtain⟨tb,pb,qb⟩:=hb.out;refine .mk ⟨_,b8f pa pb,λρ σ H P F k Q S hf q=>?_⟩;obtain⟨x,h1,hf⟩:=bnd hf;refine qa ρ σ H P F _ _ S h1 λH1 e1=>?_
 cases x with
 |true=>cases hf;exact a5s (q H1 e1)
 |false=>exact a5r (qb ρ σ H1 P F k Q (S.grow e1) hf λH2 e2=>q H2 (e1.trans e2))
def b1l{c0:Expr}(hc:PTX X M c0 ga)(ha:PX X M a fa c)(hb:PX X M b fb c):PX X M (.IfExp c0 a b pos) (eIf ga fa fb) c:=by
 obtain⟨tc,pc,qc⟩:=hc.out;obtain⟨ta,pa,qa⟩:=ha.out;obtain⟨tb,pb,qb⟩:=hb.out;refine .mk ⟨_,b0M pc pa pb,λρ σ H P F d Q S hf q=>?_⟩;obtain⟨k,h1,hf⟩:=bnd hf;refine qc ρ σ H P F _ _ S h1 λH1 e1=>?_
 cases k with
 |true=>exact a5s (qa ρ σ H1 P F d Q (S.grow e1) hf λv H2 e2 r2=>q v H2 (e1.trans e2) (r2.early e1))
 |false=>exact a5r (qb ρ σ H1 P F d Q (S.grow e1) hf λv H2 e2 r2=>q v H2 (e1.trans e2) (r2.early e1))
def m6:PAX X M [] g8:=⟨_,p0,λρ σ H P F ds Q S hf q=>by cases hf;exact q [] H (Same.refl _) denAll_nil⟩
def i5{fr:List D→Option (List D)}(ha:PX X M a fa ca)(hr:PAX X M es fr)(hs:aw (a::es) X.env=(false,cy a X.env)::aw es X.env:=by rfl):PAX X M (a::es) (b8 fa fr):=by
 obtain⟨ta,pa,qa⟩:=ha.out;obtain⟨tr,pr,qr⟩:=hr;refine⟨_,l5 pa pr hs,λρ σ H P F ds Q S hf q=>?_⟩;obtain⟨x,h1,hf⟩:=bnd hf;obtain⟨xs,h2,hf⟩:=bnd hf;cases hf
 exact qa ρ σ H P F _ _ S h1 λv H1 e1 r1=>qr ρ σ H1 P F _ _ (S.grow e1) h2 λvs H2 e2 r2=>q (v::vs) H2 (e1.trans e2) (denAll_cons (r1.den.up e2) r2)
def p9:PAN X M [] g8 []:=⟨_,p0,λρ σ H P F ds Q S hf q=>by
 cases hf
 refine q [] H [] (Same.refl _) ?_ bA λa ha=>(nomatch ha)
 simp only[OwnTs];exact⟨trivial,trivial,trivial⟩⟩
def B2{fr:List D→Option (List D)}(ha:PX X M a fa (.new u))(hr:PAN X M es fr us)(hs:aw (a::es) X.env=(false,cy a X.env)::aw es X.env:=by rfl):PAN X M (a::es) (b8 fa fr) (u::us):=by
 obtain⟨ta,pa,qa⟩:=ha.out;obtain⟨tr,pr,qr⟩:=hr;refine⟨_,l5 pa pr hs,λρ σ H P F ds Q S hf q=>?_⟩;obtain⟨x,h1,hf⟩:=bnd hf;obtain⟨xs,h2,hf⟩:=bnd hf;cases hf
 refine qa ρ σ H P F _ _ S h1 λv H1 e1 ⟨fp,o,n,fr⟩=>qr ρ σ H1 P (fp++F) _ _ (S.more e1 fr (o.lst u)) h2 λvs H2 gp e2 o2 n2 so=>?_
 have hl:=o.lst u;have hc:Same (cut H1 (fp++F)) (cut H2 (fp++gp++F)):=K4 e2 λa o' ha jW=>by
  rw[bp]at jW;rcases aF.mp jW with z|z
  ·exact aL _ z
  ·rcases aF.mp z with z|z
   ·rw[so a z]at ha;cases ha
   ·exact ax _ z
 have hd:∀a∈gp,a∉fp:=λa ha z=>by
  obtain⟨ys,q⟩:=hl a z;rw[so a ha]at q;cases q
 refine q (v::vs) H2 (fp++gp) (e1.trans e2) ?_ ?_ λa ha=>?_
 ·simp only[OwnTs];refine⟨v,vs,x,xs,fp,gp,rfl,rfl,rfl,o.frame hc u λa ha=>?_,o2.frame (H:=H2) (D7 λa ha=>?_) us λ_ _=>rfl⟩
  ·obtain⟨ys,q⟩:=hl a ha;rw[q,e2 _ _ q]
  ·simp only[aF]at ha ⊢;rcases ha with (z|z)|z
   ·exact .inr (.inl z)
   ·exact .inl z
   ·exact .inr (.inr z)
 ·rw[aZ];exact⟨n,n2,λa ha b hb e=>hd b hb (e▸ha)⟩
 ·rcases aF.mp ha with z|z
  ·exact fr a z
  ·exact e1.free (so a z)
end
section
variable {K:ag}{H H0 H1:Hp}{F fp:List au}{vs:List V}{ds:List D}{p:au}{u:Ty}{us:List Ty}
def b3V(hp:H p=p4):Same (cut H (fp++F)) (cut (upd H p o) (p::fp++F)):=K4 (k6 hp o) λa u ha jW=>by
 rw[bx]at jW;rcases az.mp jW with z|z
 ·subst z;rw[hp]at ha;cases ha
 ·exact z
theorem a3D:∀{n:Nat} {vs:List V} {ds:List D} {fp:List au},OwnTs K H F (aO n u) vs ds fp→ListAll (Own K H F u) vs ds fp
 |0,_,_,_,h=>by
  simp only[gL,OwnTs]at h;obtain⟨rfl,rfl,rfl⟩:=h;exact m3
 |n+1,_,_,_,h=>by
  simp only[jb,OwnTs]at h;obtain⟨v,r,d,e,f,g,rfl,rfl,rfl,h1,h2⟩:=h;exact k9 h1 (a3D h2)
theorem OwnTs.len:∀{us:List Ty} {vs:List V} {ds:List D} {fp:List au},OwnTs K H F us vs ds fp→vs.length=us.length∧ds.length=us.length
 |[],_,_,_,h=>by simp only[OwnTs]at h;obtain⟨rfl,rfl,_⟩:=h;exact⟨rfl,rfl⟩
 |u::us,_,_,_,h=>by
  simp only[OwnTs]at h;obtain⟨v,r,d,e,f,g,rfl,rfl,rfl,_,h2⟩:=h;obtain⟨a,b⟩:=OwnTs.len h2;exact⟨by rw[bh,bh,a],by rw[bh,bh,b]⟩
def l7(e:Same (cut H F) (cut H1 F'))(h:ListAll (Own K H F u) vs ds fp)(k:∀a∈fp,H1 a=H a):ListAll (Own K H1 F' u) vs ds fp:=
 h.imp λv d f hf _ q=>q.frame e u λa ha=>k a (hf a ha)
def a5x(h:ListAll (Own K H1 (fp++F) u) vs ds fp)(hn:fp.Nodup)(hf:∀a∈fp,H a=p4)(e:Same H H1)(hp:H1 p=p4)(hl:∀a∈fp,∃ys:MuO,H1 a=el ys.1):ResR K (.new (.l u)) H (upd H1 p (.lst vs)) F (.ref p) (.list ds):=by
 have Ah:p∉fp:=λz=>by obtain⟨ys,q⟩:=hl p z;rw[hp]at q;cases q
 refine⟨p::fp,?_,bt.mpr ⟨Ah,hn⟩,λa ha=>?_⟩
 ·simp only[Own];refine .inr ⟨p,vs,ds,fp,rfl,i6,rfl,rfl,l7 (b3V hp) h λa ha=>?_⟩;exact f7 λz=>Ah (z▸ha)
 ·rcases az.mp ha with z|z
  ·subst z;exact e.free hp
  ·exact hf a z
theorem ListAll.of_den:∀{vs:List V} {ds:List D},DenAll K H vs ds→(∀v d,d∈ds→Den K H v d→R v d [])→ListAll R vs ds []
 |_,[],h,_=>by rw[h.nil_inv];exact m3
 |_,d::ds,h,k=>by
  obtain⟨v,r,rfl,h1,h2⟩:=h.cons_inv;have:=k9 (f:=[]) (k v d aj h1) (ListAll.of_den h2 λv d hd=>k v d (aq _ hd));exact this
theorem C3:∀{ds:List D} {d:D},f6 ds=true→d∈ds→imm d=true
 |[],d,_,h=>nomatch h
 |d0::ds,d,q,h=>by
  simp only[f6,av]at q;rcases az.mp h with z|z
  ·rw[z];exact q.1
  ·exact C3 q.2 z
def F5(h:DenAll K H1 vs ds)(hi:f6 ds=true)(e:Same H H1)(hp:H1 p=p4)(hF:∀a∈F,∃ys:MuO,H1 a=el ys.1):ResR K (.new (.l .i)) H (upd H1 p (.lst vs)) F (.ref p) (.list ds):=
 a5x (fp:=[]) (ListAll.of_den h λv d hd q=>by
  simp only[Own,cA];exact⟨trivial,C3 hi hd,q.imm_out hF d (C3 hi hd)⟩) bA (λa ha=>(nomatch ha)) e hp λa ha=>(nomatch ha)
def a2f(h:DenAll K H1 vs ds)(hp:H1 p=p4):Den K (upd H1 p (.tup vs)) (.ref p) (.tuple ds):=den_tup (SqT.of i6) (h.up (k6 hp _))
def b3W(h:f6 ds=true):imm (.tuple ds)=true:=by simpa only [imm]using h
end
noncomputable def J1(f:EvA):EvE:=λρ=>(f ρ).bind λds=>el (.list ds)
noncomputable def N7(f:EvA):EvE:=λρ=>(f ρ).bind λds=>el (.tuple ds)
def W9(d:D):Option D:=if imm d then el d else p4
def N8(h:W9 d=el e):e=d∧imm d=true:=by
 unfold W9 at h;by_cases c:imm d=true
 ·rw[aB c]at h;exact⟨(aK h).symm,c⟩
 ·rw[aI c]at h;cases h
def b1m(d:D):Option D:=match d with
 |.list ds=>if f6 ds then el d else p4
 |_=>p4
def a6P(h:b1m d=el e):∃ds,d=.list ds∧e=.list ds∧f6 ds=true:=by
 cases d with
 |list ds=>
  have h':(if f6 ds=true then el (gP ds) else p4)=el e:=h;by_cases c:f6 ds=true
  ·rw[aB c]at h';exact⟨ds,rfl,(aK h').symm,c⟩
  ·rw[aI c]at h';cases h'
 |_=>cases h
section
variable {X:Cx}{M:List Md}{a b e:Expr}{es:List Expr}{fa fb:EvE}{f:EvA}{c ca cb:Cat}{u:Ty}{us:List Ty}{pos:ff}
def K8(h:PAN X M es f (aO n u))(hn:n≤1000:=by decide):PX X M (.List es pos) (J1 f) (.new (.l u)):=by
 obtain⟨t,p,q⟩:=h;refine .mk ⟨_,b6s p,λρ σ H P F d Q S hf k=>?_⟩;obtain⟨ds,h1,hf⟩:=bnd hf;cases hf
 refine q ρ σ H P F ds _ S h1 λvs H1 fp e o nd fr=>⟨?_,λx hx=>k (.ref x) _ (e.trans (k6 hx _)) (a5x (a3D o) nd fr e hx (o.lst _))⟩
 rw[o.len.1,fW];exact dE (a0J hn)
def b1n(h:PAN X M es f us)(hn:us.length≤1000:=by decide):PX X M (.Tuple es j pos) (N7 f) (.new (.tp us)):=by
 obtain⟨t,p,q⟩:=h;refine .mk ⟨_,b0X p,λρ σ H P F d Q S hf k=>?_⟩;obtain⟨ds,h1,hf⟩:=bnd hf;cases hf
 refine q ρ σ H P F ds _ S h1 λvs H1 fp e o nd fr=>⟨?_,λx hx=>k (.ref x) _ (e.trans (k6 hx _)) ⟨fp,?_,nd,fr⟩⟩
 ·rw[o.len.1];exact dE (a0J hn)
 ·have zS:x∉fp++F:=λz=>by
   rcases aF.mp z with z|z
   ·obtain⟨ys,q⟩:=o.lst _ x z;rw[hx]at q;cases q
   ·obtain⟨ys,q⟩:=S.lst' e x z;rw[hx]at q;cases q
  simp only[Own];refine⟨x,vs,ds,rfl,i6,zS,rfl,o.frame (A2 (k6 hx _)) us λa ha=>?_⟩;exact f7 λz=>zS (z▸aL _ ha)
theorem a5y:∀{n:Nat} {vs:List V} {ds:List D} {fp:List au},OwnTs K H F (aO n .i) vs ds fp→f6 ds=true
 |0,_,_,_,h=>by
  simp only[gL,OwnTs]at h;obtain⟨rfl,rfl,rfl⟩:=h;simp only[f6]
 |n+1,_,_,_,h=>by
  simp only[jb,OwnTs]at h;obtain⟨v,r,d,e,f,g,rfl,rfl,rfl,h1,h2⟩:=h;simp only[f6,av];exact⟨(T6 h1).2.1,a5y h2⟩
def U9{j}(h:PAN X M es f (aO n .i))(hn:n≤1000:=by decide):PX X M (.Tuple es j pos) (N7 f) (.new .i):=by
 obtain⟨t,p,q⟩:=h;refine .mk ⟨_,b0X p,λρ σ H P F d Q S hf k=>?_⟩;obtain⟨ds,h1,hf⟩:=bnd hf;cases hf
 refine q ρ σ H P F ds _ S h1 λvs H1 fp e o nd fr=>⟨?_,λx hx=>k (.ref x) _ (e.trans (k6 hx _)) (D8 (b3W (a5y o)) (a2f (o.den _) hx) (S.lst' (e.trans (k6 hx _))))⟩
 rw[o.len.1,fW];exact dE (a0J hn)
def a9k(hr:∀ρ ds,r ρ=el ds→ds.length=n)(h:b8 fa r ρ=el ds):ds.length=n+1:=by
 obtain⟨x,_,h⟩:=bnd h;obtain⟨xs,h2,h⟩:=bnd h;cases h
 rw[bh,hr ρ xs h2]
def dIx:D→D→Option D
 |.list ds,.int k=>atI ds k
 |.tuple ds,.int k=>atI ds k
 |_,_=>p4
def u8:D→D→Option D
 |.list ds,.int k=>atI ds k
 |_,_=>p4
def D5(a b:D):Option D:=(dIx a b).bind W9
theorem DenAll.atI(h:DenAll K H vs ds)(e:L2.atI ds k=el d):∃v j,L2.atI vs k=el v∧ixN ds.length k=el j∧vs[j]?=el v∧ds[j]?=el d∧Den K H v d:=by
 unfold L2.atI at e ⊢;obtain⟨j,e1,e2⟩:=bnd e;obtain⟨v,h1,h2⟩:=h.get e2;exact⟨v,j,by rw[h.length,e1];exact h1,e1,h1,e2,h2⟩
def b8z(K:ag):R2:=λx y H Q=>b8u K x y H Q∨b8v K x y H Q
def a6Q:IxR X (b8z X.K):=b3K.or b6u
def a8i(h:dIx x y=el d):∃ds k,(x=.list ds∨x=.tuple ds)∧y=.int k∧L2.atI ds k=el d:=by
 cases x with
 |list ds=>cases y with
  |int k=>exact⟨ds,k,.inl rfl,rfl,h⟩
  |_=>cases h
 |tuple ds=>cases y with
  |int k=>exact⟨ds,k,.inr rfl,rfl,h⟩
  |_=>cases h
 |_=>cases h
def b8A(hx:Den K H v x)(hy:Den K H w y)(h:dIx x y=el d)(q:∀z,Den K H z d→Q z H):b8z K v w H Q:=by
 obtain⟨ds,k,e,rfl,h⟩:=a8i h;cases hy.int_inv
 rcases e with rfl|rfl
 ·obtain⟨a,xs,rfl,h1,h2⟩:=hx.list_inv;obtain⟨z,j,z1,z2,z3,z4,z5⟩:=h2.atI h;exact .inl ⟨a,xs,k,z,rfl,rfl,h1.l,z1,q z z5⟩
 ·obtain⟨a,xs,rfl,h1,h2⟩:=hx.tup_inv;obtain⟨z,j,z1,z2,z3,z4,z5⟩:=h2.atI h;exact .inr ⟨a,xs,k,z,rfl,rfl,h1,z1,q z z5⟩
def D9(ha:PX X M a fa ca)(hb:PX X M b fb cb)(hs:a1L b:=by exact λ_ _=>rfl):PX X M (.Subscript a b pos) (e2 D5 fa fb) (.new .i):=by
 obtain⟨ta,pa,qa⟩:=ha.out;obtain⟨tb,pb,qb⟩:=hb.out;refine .mk ⟨_,b0Z a6Q pa pb hs,λρ σ H P F d Q S hf q=>?_⟩;obtain⟨x,y,h1,h2,h3⟩:=A6 hf;obtain⟨d',h3,h4⟩:=bnd h3;obtain⟨rfl,hi⟩:=N8 h4;exact qa ρ σ H P F x _ S h1 λv H1 e1 r1=>qb ρ σ H1 P F y _ (S.grow e1) h2 λw H2 e2 r2=>b8A (r1.den.up e2) r2.den h3 λz hz=>q z H2 (e1.trans e2) (D8 hi hz (S.lst' (e1.trans e2)))
def a4G(ha:PX X M a fa (.new .f))(hb:PX X M b fb cb)(hs:a1L b:=by exact λ_ _=>rfl):PX X M (.Subscript a b pos) (e2 dIx fa fb) (.new .f):=by
 obtain⟨ta,pa,qa⟩:=ha.out;obtain⟨tb,pb,qb⟩:=hb.out;refine .mk ⟨_,b0Z a6Q pa pb hs,λρ σ H P F d Q S hf q=>?_⟩;obtain⟨x,y,h1,h2,h3⟩:=A6 hf;refine qa ρ σ H P F x _ S h1 λv H1 e1 ⟨fp,o,_,_⟩=>qb ρ σ H1 P F y _ (S.grow e1) h2 λw H2 e2 r2=>?_
 obtain⟨rfl,o⟩:=a8g o;have o2:Den X.K (cut H2 F) v x:=o.up (A2 e2);obtain⟨ds,k,e,rfl,h⟩:=a8i h3;have fin:∀z,Den X.K (cut H2 F) z d→Q z H2:=λz hz=>q z H2 (e1.trans e2) ⟨[],by simp only[Own,cA];exact⟨trivial,hz⟩,bA,λa ha=>(nomatch ha)⟩
 have ey:=r2.den.int_inv;rcases e with rfl|rfl
 ·obtain⟨a,xs,rfl,h1,h2⟩:=o2.list_inv;obtain⟨z,j,z1,z2,z3,z4,z5⟩:=h2.atI h;exact .inl ⟨a,xs,k,z,rfl,ey,(T4 h1 i7).l,z1,fin z z5⟩
 ·obtain⟨a,xs,rfl,h1,h2⟩:=o2.tup_inv;obtain⟨z,j,z1,z2,z3,z4,z5⟩:=h2.atI h;exact .inr ⟨a,xs,k,z,rfl,ey,Q0 h1 i7,z1,fin z z5⟩
def K9(ha:PX X M a fa (.bor (.l u)))(hb:PX X M b fb cb)(hs:a1L b:=by exact λ_ _=>rfl):PX X M (.Subscript a b pos) (e2 u8 fa fb) (.bor u):=by
 obtain⟨ta,pa,qa⟩:=ha.out;obtain⟨tb,pb,qb⟩:=hb.out;refine .mk ⟨_,b0Z a6Q pa pb hs,λρ σ H P F d Q S hf q=>?_⟩;obtain⟨x,y,h1,h2,h3⟩:=A6 hf;refine qa ρ σ H P F x _ S h1 λv H1 e1 ⟨fp,o,sub⟩=>qb ρ σ H1 P F y _ (S.grow e1) h2 λw H2 e2 r2=>?_
 have o2:=o.grow e2;cases x with
 |list ds=>
  cases y with
  |int k=>
   simp only[Own]at o2;rcases o2 with⟨_,hi,_⟩|⟨p,xs,iw,fs,rfl,p1,p2,rfl,p3⟩
   ·simp only[imm]at hi;cases hi
   ·cases p2
    have tK:(ixN ds.length k).bind (λj=>ds[j]?)=el d:=h3;obtain⟨j,j1,j2⟩:=bnd tK;obtain⟨z,f,pre,post,z1,z2,z3,_,_⟩:=p3.at_ j2;refine .inl ⟨p,xs,k,z,rfl,r2.den.int_inv,.inl (.inl p1),?_,q z H2 (e1.trans e2) ⟨f,z2,λa ha=>sub a ?_⟩⟩
    ·unfold L2.atI;rw[p3.length,j1];exact z1
    ·rw[z3];exact aq _ (ax _ (aL _ ha))
  |_=>cases h3
 |_=>cases h3
end
noncomputable def eCl(g:List D→Option D)(f:EvA):EvE:=λρ=>(f ρ).bind g
section
variable {X:Cx}{M:List Md}{a b e e0:Expr}{es:List Expr}{fa fb:EvE}{f:EvA}{c ca cb:Cat}{u:Ty}{us:List Ty}{pos p:ff}{x:bC}
def a6R{id:String}{g:List D→Option D}(hc:b1e X (.builtin id) g)(hm:X.mg x=p4)(hv:gf x=el (.builtin id))(h:PAX X M (e0::es) f)(hg:Gl X x:=by rfl)(hn:x≠"__name__":=by decide)(kM:(x==("__debug__":bC))=false:=by decide)
  (he:aw (e0::es) X.env=(false,cy e0 X.env)::aw es X.env:=by rfl) (fJ:(cx pos (aw es X.env)).any (·.1)=false:=by rfl):PX X M (.Call (.Name x p) (e0::es) [] pos) (eCl g f) (.new .i):=by
 obtain⟨r,hr,hs⟩:=hc;obtain⟨t,pa,qa⟩:=h;refine .mk ⟨_,K1 hr hg hm hv pa hn kM he fJ,λρ σ H P F d Q S hf q=>?_⟩;obtain⟨ds,h1,hf⟩:=bnd hf;exact qa ρ σ H P F ds _ S h1 λvs H1 e1 r1=>hs vs H1 ds d Q r1 hf λz hi hd=>q z H1 e1 (D8 hi (hd H1) (S.lst' e1))
def a0g(h:DenAll K H xs [d]):∃v,xs=[v]∧Den K H v d:=by
 obtain⟨v,r,rfl,h1,h2⟩:=h.cons_inv;cases h2.nil_inv
 exact⟨v,rfl,h1⟩
def a4H{K:ag}{H:Hp}{xs:List V}{d e:D}(h:DenAll K H xs [d,e]):∃v w,xs=[v,w]∧Den K H v d∧Den K H w e:=by
 obtain⟨v,r,rfl,h1,h2⟩:=h.cons_inv;obtain⟨w,rfl,h3⟩:=a0g h2;exact⟨v,w,rfl,h1,h3⟩
def y6:List D→Option D
 |[.list ds]=>el (.int ds.length)
 |[.tuple ds]=>el (.int ds.length)
 |[.str x]=>if x.length≤aS then el (.int x.length) else p4
 |_=>p4
def b6E:b1e X (.builtin "len") y6:=by
 refine⟨_,a4t.or a4u,λxs H ds d Q hd hg q=>?_⟩
 match ds,hg with
 |[.list es],hg=>
  cases hg
  obtain⟨v,rfl,h⟩:=a0g hd;obtain⟨a,ys,rfl,h1,h2⟩:=h.list_inv;refine .inl ⟨a,ys,rfl,.inl h1.l,?_⟩;rw[h2.length];exact q _ (by simp only[imm]) λ_=>den_int
 |[.tuple es],hg=>
  cases hg
  obtain⟨v,rfl,h⟩:=a0g hd;obtain⟨a,ys,rfl,h1,h2⟩:=h.tup_inv;refine .inl ⟨a,ys,rfl,.inr h1,?_⟩;rw[h2.length];exact q _ (by simp only[imm]) λ_=>den_int
 |[.str x],hg=>
  have mR:(if x.length≤aS then el (ay x.length) else p4)=el d:=hg;by_cases z:x.length≤aS
  ·rw[aB z]at mR;cases mR
   obtain⟨v,rfl,h⟩:=a0g hd;cases h.str_inv
   exact .inr ⟨x,rfl,z,q _ (by simp only[imm]) λ_=>den_int⟩
  ·rw[aI z]at mR;cases mR
 |[.none],hg|[.bool _],hg|[.int _],hg|[.dict _],hg=>cases hg
 |[],hg=>cases hg
 |d1::_::_,hg=>cases d1<;>cases hg
def a1k:List D→Option (List Bool)
 |[]=>el []
 |.bool b::r=>(a1k r).map (b::·)
 |_=>p4
theorem a2g:∀{ds:List D} {bs:List Bool} {xs:List V},a1k ds=el bs→DenAll K H xs ds→xs=bs.map V.bl
 |[],bs,xs,h,q=>by cases h;rw[q.nil_inv];rfl
 |.bool b::r,bs,xs,h,q=>by
  have h':(a1k r).map (b::·)=el bs:=h;obtain⟨cs,h1,rfl⟩:=cS.mp h';obtain⟨v,rs,rfl,h2,h3⟩:=q.cons_inv;cases h2.bool_inv
  rw[a2g h1 h3];rfl
 |.none::r,bs,xs,h,q|.int _::r,bs,xs,h,q|.str _::r,bs,xs,h,q|.list _::r,bs,xs,h,q|.tuple _::r,bs,xs,h,q|.dict _::r,bs,xs,h,q=>by cases h
def a9l:List D→Option D
 |[.list ds]=>(a1k ds).map λbs=>.bool (bs.all id)
 |_=>p4
open PyProof.Rows in
def a9m(hc:X.calm=true):CallR X (.builtin "all") (λxs H Q=>∃(p:au) (bs:List Bool),xs=[.ref p]∧SqX X.K H p (bs.map V.bl)∧Q (.bl (bs.all id)) H):=by
 intro pins s σ H xs us Q I r h;obtain⟨p,bs,rfl,hp,q⟩:=h;obtain⟨u,rfl,rx⟩:=vals1 r;cases (show u=aW p from rx)
 obtain⟨hz,cJ,n,rv,ho⟩:=hp.ok I;have hl:s.heap.IsList p cJ.toArray:=⟨_,ho,rfl,_,rfl⟩;have hlen:bs.length=cJ.length:=by have:=rv.length;simpa using this
 refine call_all_walk (oY hl ?_);have gj:p≠s.heap.objs.size:=a_ (aG ho);refine⟨s.heap.objs.size,[s.heap.objs.size,p],[s.heap.objs.size],_,_,_,λi=>(bs.getD i false),rfl,Walks.list (A:=X.A.in1) (by simpa using I.ok.hd hc) s.heap.objs.size p gj cJ.toArray,⟨⟨_,aE _ rfl,rfl,rfl⟩,hl.at λo e=>af _ e⟩,?_,?_⟩
 ·intro i v s' Q' E' hP hQ;have hv:cJ[i]?=el v:=by simpa using hP
  have hi:i<bs.length:=by rw[hlen];exact (aP.mp hv).1
  obtain⟨u,hu,ru⟩:=rv.get (i:=i) (x:=.bl bs[i]) (by simp[hi]);rw[hv]at hu;cases hu
  cases (show v=ji bs[i] from ru)
  refine eR ?_;have e:bs.getD i false=bs[i]:=by simp[hi]
  have AM:Q' (bs.getD i false) s':=hQ;rw[e]at AM;exact AM
 ·intro h' tk hk;have e:(aX cJ.toArray.size).all (λi=>bs.getD i false)=bs.all id:=by
   rw[bb,←hlen,dG,bj,bj]
   constructor
   ·intro z b hb;obtain⟨i,hi,rfl⟩:=gu.mp hb;have:=z i (b_.mpr hi);simpa[hi]using this
   ·intro z i hi;have jJ:=b_.mp hi;have:=z bs[i] (cG jJ);simpa[jJ]using this
  rw[e];refine⟨.bl _,H,?_,rfl,q⟩;exact I.kept (t':=tk) λb o e=>hk b o (λz=>by
   have z':=ao.mp z;rw[z']at e;exact absurd (aG e) (dt _)) (af _ e)
def b1o(hc:X.calm=true):b1e X (.builtin "all") a9l:=by
 refine⟨_,a9m hc,λxs H ds d Q hd hg q=>?_⟩
 match ds,hg with
 |[.list es],hg=>
  have mR:(a1k es).map (λbs=>df (bs.all id))=el d:=hg;obtain⟨bs,h1,rfl⟩:=cS.mp mR;obtain⟨v,rfl,h⟩:=a0g hd;obtain⟨a,ys,rfl,h2,h3⟩:=h.list_inv;rw[a2g h1 h3]at h2;exact⟨a,bs,rfl,h2,q _ (by simp only[imm]) λ_=>den_bool⟩
 |[.none],hg|[.bool _],hg|[.str _],hg|[.dict _],hg|[.int _],hg|[.tuple _],hg=>cases hg
 |[],hg=>cases hg
 |d1::_::_,hg=>cases d1<;>cases hg
def tyD:D→String
 |.int _=>"int"
 |.bool _=>"bool"
 |.list _=>"list"
 |.tuple _=>"tuple"
 |.none=>"NoneType"
 |.str _=>"str"
 |.dict _=>"dict"
def Den.ty{K:ag}{H:Hp}{v:V}:∀{d:D},Den K H v d→(∀ds,d≠.tuple ds)→(∀ds,d≠.list ds)→(∀ds,d≠.dict ds)→TyOf K H v (.type (tyD d))
 |.none,h,_,_,_=>by cases h.none_inv;exact .non
 |.bool _,h,_,_,_=>by cases h.bool_inv;exact .bl _
 |.int _,h,_,_,_=>by cases h.int_inv;exact .int _
 |.str _,h,_,_,_=>by cases h.str_inv;exact .str _
 |.list ds,h,_,q,_=>absurd rfl (q ds)
 |.tuple ds,h,q,_,_=>absurd rfl (q ds)
 |.dict ds,h,_,_,q=>absurd rfl (q ds)
def b8B(K:ag)(T:String)(g:D→Bool):List V→Hp→VK→Prop:=λxs H Q=>∃x d,xs=[x,.ty T]∧Den K H x d∧Q (.bl (g d)) H
def a6S{pins:List (au×fD)}{σ:L2.St}{H:Hp}{s:ai}{A:bD}{E:ah→ai→Prop}{Q:ah→ai→Prop}{cv:ah}{k:Bool}{a:au}{xs:List V}(I:Inv X pins σ H s)(h:SqT X.K H a xs)(e:eY X.K (.type "tuple") cv=el k)(hq:∀tk,Q (.bool k) {s with toks:=tk}) :
  aC (aV X.prog X.w) A (call (.builtin "isinstance") [.ref a,cv]) Q E s:=by
 obtain⟨cJ,_,⟨o,h1,h2,_⟩,_⟩:=I.tuple h;exact cO zj I.kIn ⟨o,h1,h2⟩ e (λz=>nomatch z) hq
def a6T{pins:List (au×fD)}{σ:L2.St}{H:Hp}{s:ai}{A:bD}{E:ah→ai→Prop}{Q:ah→ai→Prop}{cv:ah}{k:Bool}{a:au}{xs:List V}(I:Inv X pins σ H s)(h:SqX X.K H a xs)(e:eY X.K (.type "list") cv=el k)(hq:∀tk,Q (.bool k) {s with toks:=tk}) :
  aC (aV X.prog X.w) A (call (.builtin "isinstance") [.ref a,cv]) Q E s:=by
 obtain⟨_,cJ,n,_,h1⟩:=h.ok I;exact cO m_ I.kIn ⟨_,h1,rfl⟩ e (λz=>nomatch z) hq
def a6U{pins:List (au×fD)}{σ:L2.St}{H:Hp}{s:ai}{A:bD}{E:ah→ai→Prop}{Q:ah→ai→Prop}{cv:ah}{k:Bool}{a:au}{es:List (D×V×V)}(I:Inv X pins σ H s)(h:H a=el (c6 a es))(e:eY X.K (.type "dict") cv=el k)(hq:∀tk,Q (.bool k) {s with toks:=tk}) :
  aC (aV X.prog X.w) A (call (.builtin "isinstance") [.ref a,cv]) Q E s:=by
 obtain⟨⟨_,_,_,o,ents,_,h1,h2,_⟩,_⟩:=(show ObjOk X.prog X.w H s.heap a (c6 a es) from I.hok a _ h);exact cO nc I.kIn ⟨o,h1,h2.1⟩ e (λz=>nomatch z) hq
def a9n{T:String}{g:D→Bool}(hf:∀(K:ag) (d:D),eY K (.type (tyD d)) (.type T)=el (g d)):CallR X (.builtin "isinstance") (b8B X.K T g):=by
 intro pins s σ H xs us Q I r h;obtain⟨x,d,rfl,hd,q⟩:=h;obtain⟨u,w',rfl,rx,ry⟩:=vals2 r;cases (show w'=dD T from ry)
 by_cases ht:(∀ds,d≠.tuple ds)∧(∀ds,d≠.list ds)∧(∀ds,d≠.dict ds)
 ·exact a9d I rx (hd.ty ht.1 ht.2.1 ht.2.2) (hf X.K d) λtk=>⟨.bl _,H,I.tok tk,rfl,q⟩
 ·cases d with
  |list ds=>
   obtain⟨a,ys,rfl,h1,_⟩:=hd.list_inv;cases (show u=aW a from rx)
   exact a6T I h1 (hf X.K (.list ds)) λtk=>⟨.bl _,H,I.tok tk,rfl,q⟩
  |tuple ds=>
   obtain⟨a,ys,rfl,h1,_⟩:=hd.tup_inv;cases (show u=aW a from rx)
   exact a6S I h1 (hf X.K (.tuple ds)) λtk=>⟨.bl _,H,I.tok tk,rfl,q⟩
  |dict ds=>
   simp only[Den]at hd;obtain⟨a,es,rfl,h1,_⟩:=hd;cases (show u=aW a from rx)
   exact a6U I h1 (hf X.K (.dict ds)) λtk=>⟨.bl _,H,I.tok tk,rfl,q⟩
  |_=>exact absurd ⟨(λds z=>by cases z),(λds z=>by cases z),(λds z=>by cases z)⟩ ht
def isInt:D→Bool
 |.int _=>true
 |.bool _=>true
 |_=>false
def isBool:D→Bool
 |.bool _=>true
 |_=>false
def isList:D→Bool
 |.list _=>true
 |_=>false
def a4I:D→Bool
 |.tuple _=>true
 |_=>false
def a2h{g:D→Bool}(hf:∀(K:ag) (d:D),eY K (.type (tyD d)) (.type T)=el (g d))(hm:X.mg "isinstance"=p4)(hy:X.mg y=p4)(hb:gf y=el (.type T))(h:PX X M a fa ca)
  (hg:Gl X "isinstance":=by rfl) (DA:Gl X y:=by rfl) (De:y≠"__name__":=by decide) (wG:(y==("__debug__":bC))=false:=by decide)
  (he:aw [a,.Name y py] X.env=(false,cy a X.env)::aw [.Name y py] X.env:=by rfl) (nu:aw [.Name y py] X.env=(false,cy (.Name y py) X.env)::aw [] X.env:=by rfl) (fJ:(cx pos (aw [.Name y py] X.env)).any (·.1)=false:=by rfl) :
  PX X M (.Call (.Name "isinstance" p) [a,.Name y py] [] pos) (e1 (λd=>el (.bool (g d))) fa) (.new .i):=by
 obtain⟨ta,pa,qa⟩:=h.out;refine .mk ⟨_,K1 (a9n hf) hg hm PyProof.Rows.Boot.«isinstance» (l5 pa (l5 (b3w (v:=.ty T) DA hy hb rfl De wG) p0 nu) he) (by decide) (by decide) he fJ,λρ σ H P F d Q S oH q=>?_⟩;obtain⟨x,h1,oH⟩:=bnd oH;cases oH
 exact qa ρ σ H P F x _ S h1 λv H1 e1 r1=>⟨v,x,rfl,r1.den,q _ H1 e1 (D8 (by simp only[imm]) den_bool (S.lst' e1))⟩
def b3X(K:ag)(d:D):eY K (.type (tyD d)) (.type "int")=el (isInt d):=by cases d<;>rfl
def b1p(K:ag)(d:D):eY K (.type (tyD d)) (.type "bool")=el (isBool d):=by cases d<;>rfl
def a2i(K:ag)(d:D):eY K (.type (tyD d)) (.type "list")=el (isList d):=by cases d<;>rfl
end
def cutD(ds:List D)(lo hi:Option Int):List D:=(ds.drop (HT.sIx ds.length 0 lo)).take (HT.sIx ds.length ds.length hi-HT.sIx ds.length 0 lo)
abbrev EvO:=List D→Option (Option Int)
noncomputable def oNo:EvO:=λ_=>el p4
def asI:D→Option Int
 |.int i=>el i
 |_=>p4
noncomputable def oSo(a:EvE):EvO:=λρ=>(a ρ).bind λd=>(asI d).bind λi=>el (el i)
def a5z(h:asI d=el i):d=.int i:=by
 cases d with
 |int j=>cases h;rfl
 |_=>cases h
def asL:D→Option (List D)
 |.list ds=>el ds
 |_=>p4
def G0(h:asL d=el ds):d=.list ds:=by
 cases d with
 |list j=>cases h;rfl
 |_=>cases h
def asS:D→Option (List D)
 |.list ds=>el ds
 |.tuple ds=>el ds
 |_=>p4
noncomputable def POX(X:Cx)(M:List Md)(e:Option Expr)(f:EvO):Prop:=
 ∃t,PO X e t∧∀(ρ:List D) (σ:L2.St) (H P:Hp) (F:List au) (o:Option Int) (Q:Option Int→Hp→Prop),StE X.K M ρ σ H P F→f ρ=el o→(∀H',Same H H'→Q o H')→t σ H Q
noncomputable def eSl(a:EvE)(lo hi:EvO):EvE:=λρ=>(a ρ).bind λx=>(asL x).bind λds=>(lo ρ).bind λl=>(hi ρ).bind λh=>el (.list (cutD ds l h))
noncomputable def eI(a:EvE):EvE:=λρ=>(a ρ).bind b1m
section
variable {X:Cx}{M:List Md}{a b e e0:Expr}{lo hi:Option Expr}{es:List Expr}{fa fb:EvE}{fl fh:EvO}{f:EvA}{c ca cb:Cat}{u:Ty}{us:List Ty}{pos p p2:ff}{x:bC}
def a5A:POX X M p4 oNo:=⟨_,b3G,λρ σ H P F o Q S hf q=>by cases hf;exact q H (Same.refl _)⟩
def a5B(h:PX X M a fa ca):POX X M (el a) (oSo fa):=by
 obtain⟨t,p,q⟩:=h.out;refine⟨_,b3H p,λρ σ H P F o Q S hf k=>?_⟩;obtain⟨d,h1,rh⟩:=bnd hf;obtain⟨i,h2,rg⟩:=bnd rh;cases a5z h2
 cases rg
 exact q ρ σ H P F _ _ S h1 λv H1 e1 r1=>⟨i,r1.den.int_inv,k H1 e1⟩
structure MkL (X:Cx) (M:List Md) (e:Expr) (f:EvE) (A:Prop):Prop where
 run:∃t,PE X e t∧∀(ρ:List D) (σ:L2.St) (H P:Hp) (F:List au) (d:D) (Q:VK),StE X.K M ρ σ H P F→f ρ=el d→
  (∀vs ds H1 l,Same H H1→d=.list ds→DenAll X.K H1 vs ds→(A→DenAll X.K (cut H1 F) vs ds)→H1 l=p4→Q (.ref l) (upd H1 l (.lst vs)))→t σ H Q
theorem MkL.i{f:EvE}{A:Prop}(h:MkL X M e f A):PX X M e (eI f) (.new (.l .i)):=by
 obtain⟨t,p,q⟩:=h.run;refine .mk ⟨t,p,λρ σ H P F d Q S hf k=>?_⟩;obtain⟨d',g1,hc⟩:=bnd hf;clear hf;obtain⟨es,rfl,rfl,hi⟩:=a6P hc;refine q ρ σ H P F _ Q S g1 λvs ds H1 l e1 ed h1 _ hl=>?_
 cases ed
 exact k _ _ (e1.trans (k6 hl _)) (F5 h1 hi e1 hl (S.lst' e1))
def frozen:Cat→Prop
 |.new .f=>True
 |.new .i=>True
 |_=>False
def B5(hc:frozen c)(r:ResR K c H H1 F v d):Den K (cut H1 F) v d:=by
 match c,hc with
 |.new .f,_=>
  obtain⟨fp,o,_⟩:=r;obtain⟨rfl,o⟩:=a8g o;exact o
 |.new .i,_=>
  obtain⟨fp,o,_⟩:=r;obtain⟨rfl,_,o⟩:=T6 o;exact o
def J3(r:ResR K c H H1 F v (.list ds)):∃a xs,v=.ref a∧SqX K H1 a xs∧DenAll K H1 xs ds∧(frozen c→DenAll K (cut H1 F) xs ds):=by
 by_cases hc:frozen c
 ·obtain⟨a,xs,rfl,k1,k2⟩:=(B5 hc r).list_inv;exact⟨a,xs,rfl,T4 k1 i7,k2.up i7,λ_=>k2⟩
 ·obtain⟨a,xs,rfl,k1,k2⟩:=r.den.list_inv;exact⟨a,xs,rfl,k1,k2,λh=>absurd h hc⟩
def b1q:SlR X (λx lo hi H Q=>∃a xs,x=.ref a∧SqX X.K H a xs∧∀p,H p=p4→Q (.ref p) (upd H p (.lst (a6L xs lo hi)))):=by
 intro pins s σ H x v vl vu lo hi sl Q I rx hs pl pu ⟨a,xs,e,h,q⟩;exact b3L pins s σ H x v vl vu lo hi sl Q I rx hs pl pu ⟨a,xs,e,h.l,q⟩
def a8j(h:DenAll K H vs ds)(lo hi:Option Int):DenAll K H (a6L vs lo hi) (cutD ds lo hi):=by
 unfold a6L cutD;rw[h.length];exact (h.drop _).take _
def a5C(ha:PX X M a fa ca)(hl:POX X M lo fl)(hh:POX X M hi fh):MkL X M (.Subscript a (.Slice lo hi p4 p2) pos) (eSl fa fl fh) (frozen ca):=by
 obtain⟨ta,pa,qa⟩:=ha.out;obtain⟨tl,pl,ql⟩:=hl;obtain⟨th,ph,qh⟩:=hh;refine⟨_,b0Y b1q pa pl ph,λρ σ H P F d Q S hf q=>?_⟩;obtain⟨x,h1,rh⟩:=bnd hf;obtain⟨ds,h2,rg⟩:=bnd rh;cases G0 h2
 obtain⟨l,h3,y_⟩:=bnd rg;obtain⟨h,h4,uj⟩:=bnd y_;cases uj
 refine qa ρ σ H P F _ _ S h1 λv H1 e1 r1=>ql ρ σ H1 P F l _ (S.grow e1) h3 λH2 e2=>qh ρ σ H2 P F h _ (S.grow (e1.trans e2)) h4 λH3 e3=>?_
 obtain⟨pp,xs,rfl,k1,k2,k3⟩:=J3 (r1.up (e2.trans e3));exact⟨pp,xs,rfl,k1,λz hz=>q _ _ H3 z ((e1.trans e2).trans e3) rfl (a8j k2 l h) (λhc=>a8j (k3 hc) l h) hz⟩
noncomputable def L7(a:EvE):EvE:=λρ=>(a ρ).bind λd=>(asS d).bind λds=>el (.list ds)
def a4J(hm:X.mg "list"=p4)(ha:PX X M a fa ca)(hg:Gl X "list":=by rfl)(he:aw [a] X.env=(false,cy a X.env)::aw [] X.env:=by rfl)(fJ:(cx pos (aw [] X.env)).any (·.1)=false:=by rfl) :
  MkL X M (.Call (.Name "list" p) [a] [] pos) (L7 fa) (frozen ca):=by
 obtain⟨ta,pa,qa⟩:=ha.out;refine⟨_,J7 a0b hg hm PyProof.Rows.Boot.«list» (l5 pa p0 he) (by decide) (by decide) he fJ,λρ σ H P F d Q S hf q=>?_⟩;obtain⟨x,h1,rh⟩:=bnd hf;obtain⟨ds,h2,rg⟩:=bnd rh;cases rg
 refine qa ρ σ H P F _ _ S h1 λv H1 e1 r1=>?_
 cases x with
 |list es=>
  cases h2
  obtain⟨pp,xs,rfl,k1,k2,k3⟩:=J3 r1;exact⟨pp,xs,rfl,.inl k1.l,λz hz=>q _ _ H1 z e1 rfl k2 k3 hz⟩
 |tuple es=>
  cases h2
  by_cases hc:frozen ca
  ·obtain⟨pp,xs,rfl,k1,k2⟩:=(B5 hc r1).tup_inv;exact⟨pp,xs,rfl,.inr (Q0 k1 i7),λz hz=>q _ _ H1 z e1 rfl (k2.up i7) (λ_=>k2) hz⟩
  ·obtain⟨pp,xs,rfl,k1,k2⟩:=r1.den.tup_inv;exact⟨pp,xs,rfl,.inr k1,λz hz=>q _ _ H1 z e1 rfl k2 (λh=>absurd h hc) hz⟩
 |_=>cases h2
noncomputable def w6(a:EvE):EvE:=λρ=>(a ρ).bind λd=>(asS d).bind λds=>W9 (.tuple ds)
def N9(hm:X.mg "tuple"=p4)(ha:PX X M a fa ca)(hg:Gl X "tuple":=by rfl)(he:aw [a] X.env=(false,cy a X.env)::aw [] X.env:=by rfl)(fJ:(cx pos (aw [] X.env)).any (·.1)=false:=by rfl) :
  PX X M (.Call (.Name "tuple" p) [a] [] pos) (w6 fa) (.new .i):=by
 obtain⟨ta,pa,qa⟩:=ha.out;refine .mk ⟨_,J7 a3l hg hm PyProof.Rows.Boot.«tuple» (l5 pa p0 he) (by decide) (by decide) he fJ,λρ σ H P F d Q S hf q=>?_⟩;obtain⟨x,h1,rh⟩:=bnd hf;obtain⟨ds,h2,rg⟩:=bnd rh;obtain⟨rfl,hi⟩:=N8 rg;refine qa ρ σ H P F _ _ S h1 λv H1 e1 r1=>?_
 cases x with
 |list es=>
  cases h2
  obtain⟨pp,xs,rfl,k1,k2⟩:=r1.den.list_inv;exact⟨pp,xs,rfl,.inl ⟨k1.l,λz hz=>q _ _ (e1.trans (k6 hz _)) (D8 hi (a2f k2 hz) (S.lst' (e1.trans (k6 hz _))))⟩⟩
 |tuple es=>
  cases h2
  obtain⟨pp,xs,rfl,k1,k2⟩:=r1.den.tup_inv;exact⟨pp,xs,rfl,.inr ⟨k1,q _ _ e1 (D8 hi (den_tup k1 k2) (S.lst' e1))⟩⟩
 |_=>cases h2
def b3Y:OpR X (eL .Add) (λx y H Q=>∃l b xs zs,x=.ref l∧y=.ref b∧SqX X.K H l xs∧SqX X.K H b zs∧xs.length+zs.length≤aS∧∀p,H p=p4→Q (.ref p) (upd H p (.lst (xs++zs)))):=by
 intro pins s σ H x y v u Q I rx ry h;obtain⟨l,b,xs,zs,rfl,rfl,hH,hB,hz,q⟩:=h;cases rx
 cases ry
 obtain⟨z,cJ,n,r,e⟩:=hH.ok I;obtain⟨z2,qQ,n2,r2,e2⟩:=hB.ok I;have hl:=r.length;have qo:=r2.length;refine PySem.P.add_list e e2 ?_ (by rw[bb,bb];lia);have ea:cJ.toArray++qQ.toArray=(cJ++qQ).toArray:=by simp
 rw[ea];exact⟨.ref _,_,I.lnew (t':=s.toks) (r.append r2) (by rw[bg];lia),rfl,q _ I.fresh⟩
noncomputable def b6F(a b:EvE):EvE:=λρ=>(a ρ).bind λx=>(asL x).bind λds=>(b ρ).bind λy=>(asL y).bind λes=>if ds.length+es.length≤aS then el (.list (ds++es)) else p4
def b1r(ha:PX X M a fa ca)(hb:PX X M b fb cb):MkL X M (.BinOp a .Add b pos) (b6F fa fb) (frozen ca∧frozen cb):=by
 obtain⟨ta,pa,qa⟩:=ha.out;obtain⟨tb,pb,qb⟩:=hb.out;refine⟨_,b0T b3Y pa pb,λρ σ H P F d Q S hf q=>?_⟩;obtain⟨x,h1,rh⟩:=bnd hf;obtain⟨ds,h2,rg⟩:=bnd rh;cases G0 h2
 obtain⟨y,h3,y_⟩:=bnd rg;obtain⟨es,h4,uj⟩:=bnd y_;cases G0 h4
 by_cases hz:ds.length+es.length≤aS
 ·rw[aB hz]at uj;cases uj
  refine qa ρ σ H P F _ _ S h1 λv H1 e1 r1=>qb ρ σ H1 P F _ _ (S.grow e1) h3 λw H2 e2 r2=>?_
  obtain⟨pp,xs,rfl,k1,k2,k3⟩:=J3 (r1.up e2);obtain⟨qq,ys,rfl,j1,j2,j3⟩:=J3 r2;exact⟨pp,qq,xs,ys,rfl,rfl,k1,j1,by rw[k2.length,j2.length];exact hz,λz hz=>q _ _ H2 z (e1.trans e2) rfl (k2.append j2) (λhc=>(k3 hc.1).append (j3 hc.2)) hz⟩
 ·rw[aI hz]at uj;cases uj
def spD(K:ag)(n:Nat)(m:List D→Option D)(u:Ty):Sp:=λvs H Q _=>∃ds d,vs.length=n∧DenAll K H vs ds∧m ds=el d∧∀v H' fp,Same H H'→Own K H' fp u v d fp→fp.Nodup→(∀a∈fp,H a=p4)→Q v H'
def b3Z(W:Has X.prog X.w X.K X.mg X.base x k ps (spD X.K n m u))(hr:Room k X.A)(h:PAX X M (e0::es) f)(hu:u.shut=true:=by rfl)(hl:(e0::es).length=n:=by rfl)(hfl:∀ρ ds,f ρ=el ds→ds.length=(e0::es).length)
  (hg:Gl X x:=by rfl) (kM:(x==("__debug__":bC))=false:=by decide) (he:aw (e0::es) X.env=(false,cy e0 X.env)::aw es X.env:=by rfl) (fJ:(cx pos (aw es X.env)).any (·.1)=false:=by rfl) :
  PX X M (.Call (.Name x p) (e0::es) [] pos) (eCl m f) (.new u):=by
 obtain⟨t,pa,qa⟩:=h;refine .mk ⟨_,a4w W hr pa hg kM he fJ,λρ σ H P F d Q S hf q=>?_⟩;obtain⟨ds,h1,hf⟩:=bnd hf;refine qa ρ σ H P F ds _ S h1 λvs H1 e1 r1=>?_
 show spD X.K n m u (vs++[]) H1 Q E0;rw[bE];refine⟨ds,d,by rw[r1.length,hfl ρ ds h1,hl],r1,hf,λv H' fp e o nd fr=>q v H' (e1.trans e) ⟨fp,o.shut_out (λa ha=>?_) u hu,nd,λa ha=>e1.free (fr a ha)⟩⟩;rcases aF.mp ha with z|z
 ·exact o.lst u a z
 ·exact S.lst' (e1.trans e) a z
end
structure Walks (J:It) (Pr:Hp→Prop) (xs:List V):Prop where
 go:∀i H,Pr H→i<xs.length→J.go i H
 stop:∀i H,Pr H→xs.length≤i→J.stop i H
 yld:∀i H x H',Pr H→i<xs.length→J.yld i H x H'→H'=H∧xs[i]?=el x
def a6V:Walks (Itl K a) (λH=>SqL K H a xs) xs where
 go:=λi H h hi=>⟨xs,xs[i],h,by simp[hi]⟩
 stop:=λi H h hi=>⟨xs,h,hi⟩
 yld:=λi H x H' h _ y=>⟨y.1,y.2 xs h⟩
def a9o:Walks (Itt K a) (λH=>SqT K H a xs) xs where
 go:=λi H h hi=>⟨xs,xs[i],h,by simp[hi]⟩
 stop:=λi H h hi=>⟨xs,h,hi⟩
 yld:=λi H x H' h _ y=>⟨y.1,y.2 xs h⟩
def a5D:Walks (Itr lo n) (λ_=>True) ((aX n).map λ(k:Nat)=>V.int (lo+k)) where
 go:=λi H h hi=>by show i<n;simpa using hi
 stop:=λi H h hi=>by show n≤i;simpa using hi
 yld:=λi H x H' h hi y=>by
  obtain⟨e,y⟩:=y;refine⟨e,?_⟩;have jJ:i<n:=by simpa using hi
  rw[y];simp[jJ]
noncomputable def PIX(X:Cx)(M:List Md)(tg iter:Expr)(f:EvA):Prop:=
 ∃wi,PI X tg iter wi∧∀(ρ:List D) (σ:L2.St) (H P:Hp) (F:List au) (ds:List D) (R:It→Hp→Prop),StE X.K M ρ σ H P F→f ρ=el ds→
  (∀J xs Pr H1,Same H H1→Walks J Pr xs→(∀H2,Same (cut H1 F) H2→Pr H2)→DenAll X.K (cut H1 F) xs ds→R J H1)→wi σ H R
noncomputable def iL(a:EvE):EvA:=λρ=>(a ρ).bind asL
noncomputable def iT(a:EvE):EvA:=λρ=>(a ρ).bind λd=>match d with
 |.tuple ds=>el ds
 |_=>p4
def F6(lo:Int)(n:Nat):List D:=(aX n).map λ(k:Nat)=>.int (lo+k)
noncomputable def iR(a:EvE):EvA:=λρ=>(a ρ).bind λd=>(asI d).bind λn=>if -(2^62)≤n∧n<2^62 then el (F6 0 n.toNat) else p4
noncomputable def iI(f:EvA):EvA:=λρ=>(f ρ).bind λds=>if f6 ds then el ds else p4
section
variable {X:Cx}{M:List Md}{a b e tg iter:Expr}{fa fb:EvE}{f:EvA}{ca cb:Cat}{pos p:ff}
def v6(h:PX X M a fa ca)(hc:frozen ca:=by trivial):PIX X M tg a (iL fa):=by
 obtain⟨t,p,q⟩:=h.out;refine⟨_,b3z p,λρ σ H P F ds R S hf k=>?_⟩;obtain⟨d,h1,h2⟩:=bnd hf;cases G0 h2
 refine q ρ σ H P F _ _ S h1 λv H1 e1 r1=>?_
 obtain⟨aa,xs,rfl,k1,k2⟩:=(B5 hc r1).list_inv;exact⟨aa,rfl,⟨xs,(T4 k1 i7).l⟩,k _ xs _ H1 e1 a6V (λH2 e2=>(T4 k1 e2).l) k2⟩
def a4K(h:PX X M a fa ca)(hc:frozen ca:=by trivial):PIX X M tg a (iT fa):=by
 obtain⟨t,p,q⟩:=h.out;refine⟨_,b6g p,λρ σ H P F ds R S hf k=>?_⟩;obtain⟨d,h1,h2⟩:=bnd hf;cases d with
 |tuple es=>
  cases h2
  refine q ρ σ H P F _ _ S h1 λv H1 e1 r1=>?_
  obtain⟨aa,xs,rfl,k1,k2⟩:=(B5 hc r1).tup_inv;exact⟨aa,rfl,⟨xs,Q0 k1 i7⟩,k _ xs _ H1 e1 a9o (λH2 e2=>Q0 k1 e2) k2⟩
 |_=>cases h2
def a9p:DenAll K H ((aX n).map λ(k:Nat)=>V.int (lo+k)) (F6 lo n):=by
 have:∀l:List Nat,DenAll K H (l.map λ(k:Nat)=>V.int (lo+k)) (l.map λ(k:Nat)=>ay (lo+k)):=by
  intro l
  induction l with
  |nil=>exact denAll_nil
  |cons x l ih=>exact denAll_cons den_int ih
 exact this _
def A7(hm:X.mg "range"=p4)(h:PX X M a fa ca)(hg:Gl X "range":=by rfl)(he:aw [a] X.env=[(false,cy a X.env)]:=by rfl)(nu:aw [a] X.env=(false,cy a X.env)::aw [] X.env:=by rfl) :
  PIX X M tg (.Call (.Name "range" p) [a] [] pos) (iR fa):=by
 obtain⟨t,p,q⟩:=h.out;refine⟨_,a9a hg hm (l5 p p0 nu) he,λρ σ H P F ds R S hf k=>?_⟩;obtain⟨d,h1,g1⟩:=bnd hf;obtain⟨n,h2,g2⟩:=bnd g1;cases a5z h2
 by_cases c:-(2^62)≤n∧n<2^62
 ·rw[aB c]at g2;cases g2
  exact q ρ σ H P F _ _ S h1 λv H1 e1 r1=>⟨n,by rw[r1.den.int_inv],c.1,c.2,k _ _ _ H1 e1 a5D (λ_ _=>trivial) a9p⟩
 ·rw[aI c]at g2;cases g2
def PIX.i(h:PIX X M tg iter f):PIX X M tg iter (iI f):=by
 obtain⟨wi,p,q⟩:=h;refine⟨wi,p,λρ σ H P F ds R S hf k=>?_⟩;obtain⟨es,h1,g1⟩:=bnd hf;by_cases c:f6 es=true
 ·rw[aB c]at g1;cases g1
  exact q ρ σ H P F _ R S h1 k
 ·rw[aI c]at g1;cases g1
end
def TgR(K:ag)(g:TG)(n:Nat)(pt:D→Option (List D)):Prop:=
 ∀(H Hc:Hp) (x:V) (d:D) (ds:List D) (σ:L2.St) (Q:L2.St→Hp→Prop),Same Hc H→Den K Hc x d→pt d=el ds→n≤σ.length→(∀vs,DenAll K Hc vs ds→vs.length=n→Q (vs.map el++σ.drop n) H)→g x σ H Q
def pt1(d:D):Option (List D):=el [d]
def pt2:D→Option (List D)
 |.tuple [a,b]=>el [a,b]
 |_=>p4
def B6:TgR K (S9 0) 1 pt1:=by
 intro H Hc x d ds σ Q e hd hp hn k;cases hp
 cases σ with
 |nil=>simp at hn
 |cons o σ=>exact k [x] (denAll_cons hd denAll_nil) rfl
noncomputable def L8(pt:D→Option (List D))(t:EvT)(g:EvE)(cs:List D):List D→Option (List D)
 |[]=>el []
 |d::ds=>(pt d).bind λbs=>(t (bs++cs)).bind λk=>if k then (g (bs++cs)).bind λy=>(L8 pt t g cs ds).bind λys=>el (y::ys) else L8 pt t g cs ds
noncomputable def l0(fi:EvA)(js:List Nat)(pt:D→Option (List D))(t:EvT)(g:EvE):EvE:=λρ=>(fi ρ).bind λds=>if ds.length≤1000000 then (L8 pt t g (js.map λj=>ρ.getD j .none) ds).bind λys=>el (.list ys) else p4
noncomputable def tT:EvT:=λ_=>el true
def T7(m:Md)(n:Nat)(M:List Md)(js:List Nat):List Md:=aO n m++js.map λj=>M.getD j .dead
section
variable {K:ag}{J:It}{Pr:Hp→Prop}{xs:List V}{Dl:au}{g:TG}{tt:TT}{te:TE}{σ:L2.St}{H:Hp}{R:Hp→Prop}
def a9q(hw:Walks J Pr xs)(Pv:Nat→List V→L2.St→Hp→Prop)(h0:Pv 0 [] σ (upd H Dl (.lst [])))(hp:∀i ys σ H,Pv i ys σ H→Pr H)
  (hs:∀i x ys σ H,xs[i]?=el x→Pv i ys σ H→g x σ H λσ3 H3=>tt σ3 H3 λb H4=>if b=true then te σ3 H4 λy H5=>H5 Dl=el (.lst ys)∧ys.length<aS∧Pv (i+1) (ys++[y]) σ3 (upd H5 Dl (.lst (ys++[y]))) else Pv (i+1) ys σ3 H4)
  (hd:∀ys σ H,Pv xs.length ys σ H→R H) :
  ∃W:Nat→Nat→List V→L2.St→Hp→Prop,(∃m,W 0 m [] σ (upd H Dl (.lst [])))∧∀i m ys σ' H',W i m ys σ' H'→(J.stop i H'∧R H')∨
   (J.go i H'∧∃(N:V→L2.St→Hp→Prop) (NO:L2.St→Hp→Prop),(∀y σ3 H4,N y σ3 H4→H4 Dl=el (.lst ys)∧ys.length<aS∧∃m',m'<m∧W (i+1) m' (ys++[y]) σ3 (upd H4 Dl (.lst (ys++[y]))))∧
    (∀σ3 H4,NO σ3 H4→∃m',m'<m∧W (i+1) m' ys σ3 H4)∧∀x H2,J.yld i H' x H2→g x σ' H2 λσ3 H3=>tt σ3 H3 λb H4=>if b=true then te σ3 H4 λy H5=>N y σ3 H5 else NO σ3 H4):=by
 refine⟨λi m ys σ H=>m=xs.length-i∧i≤xs.length∧Pv i ys σ H,⟨xs.length,by simp,bI _,h0⟩,?_⟩;rintro i m ys σ H ⟨rfl,hi,p⟩;have q:=hp i ys σ H p;by_cases hW:i<xs.length
 ·refine .inr ⟨hw.go i H q hW,λy σ3 H4=>H4 Dl=el (.lst ys)∧ys.length<aS∧Pv (i+1) (ys++[y]) σ3 (upd H4 Dl (.lst (ys++[y]))),λσ3 H4=>Pv (i+1) ys σ3 H4,λy σ3 H4 ⟨r1,r2,r3⟩=>⟨r1,r2,xs.length-(i+1),by lia,rfl,hW,r3⟩,λσ3 H4 r3=>⟨xs.length-(i+1),by lia,rfl,hW,r3⟩,λx H' y=>?_⟩;obtain⟨e,yy⟩:=hw.yld i H x H' q hW y;subst e;exact hs i x ys σ _ yy p
 ·have e:i=xs.length:=by lia
  subst e;exact .inl ⟨hw.stop _ H q (aD _),hd ys σ H p⟩
end
def b1s{js:List Nat}(S:StE K M ρ σ H P F)(hm:m=.i∨m=.f)(hv:DenAll K (cut H F) vs bs)(hi:m=.i→f6 bs=true)(hn:vs.length=n)
  (hσ:σb=vs.map el++js.map λj=>(σ[j]?).getD p4):StE K (T7 (.own m) n M js) (bs++js.map λj=>ρ.getD j .none) σb H P F:=by
 obtain⟨G,h1,h3⟩:=S.all;obtain⟨G',q,hq⟩:=h1.pick h3 js;refine⟨⟨G',?_,hq⟩,S.lst,S.prot⟩;subst hσ hn;unfold T7;have key:∀{vs:List V} {bs:List D},DenAll K (cut H F) vs bs→(m=.i→f6 bs=true)→StAll K H F (aO vs.length (.own m)++js.map λj=>M.getD j .dead) (bs++js.map λj=>ρ.getD j .none) (vs.map el++js.map λj=>(σ[j]?).getD p4) G':=by
  intro vs
  induction vs with
  |nil=>
   intro bs h _;have hl:=h.length;have:bs=[]:=fO.mp (by simpa using hl.symm);subst this;exact q
  |cons v vs ih=>
   intro bs h hi;cases bs with
   |nil=>have:=h.length;simp at this
   |cons b bs=>
    obtain⟨v',r,e,h4,h5⟩:=h.cons_inv;cases e
    have:=k7 (K:=K) (H:=H) (F:=F) (m:=.own m) (d:=b) (o:=el v) (f:=[]) ⟨v,rfl,by
     rcases hm with rfl|rfl
     ·have:=hi rfl;simp only[f6,av]at this;simp only[Own];exact⟨trivial,this.1,h4⟩
     ·simp only[Own];exact⟨trivial,h4⟩⟩ (ih h5 λe=>by have:=hi e;simp only[f6,av]at this;exact this.2)
    simpa[jb]using this
 exact key hv hi
def a6W(h:L8 pt t g cs (d::ds)=el rs) :
  ∃bs k,pt d=el bs∧t (bs++cs)=el k∧((k=true∧∃y ys,g (bs++cs)=el y∧L8 pt t g cs ds=el ys∧rs=y::ys)∨(k=false∧L8 pt t g cs ds=el rs)):=by
 simp only[L8]at h;obtain⟨bs,h1,g1⟩:=bnd h;obtain⟨k,h2,g2⟩:=bnd g1;refine⟨bs,k,h1,h2,?_⟩;cases k with
 |true=>
  rw[aB rfl]at g2;obtain⟨y,h3,g3⟩:=bnd g2;obtain⟨ys,h4,g4⟩:=bnd g3;cases g4
  exact .inl ⟨rfl,y,ys,h3,h4,rfl⟩
 |false=>
  rw[aI aQ]at g2;exact .inr ⟨rfl,g2⟩
section
variable {X:Cx}{M:List Md}{tn ys:List bC}{js:List Nat}{scope:fZ}{elt tg iter:Expr}{ifs:List Expr}{pos:ff}{g:TG}{n:Nat}{pt:D→Option (List D)}{fi:EvA}{ft:EvT}{fe:EvE}{u m:Ty}
def a3E(hi:∀(ρ:List D) (σ:L2.St) (H P:Hp) (F:List au) (ds:List D) (R:It→Hp→Prop),StE X.K M ρ σ H P F→fi ρ=el ds→
   (∀J xs Pr H1,Same H H1→Walks J Pr xs→(∀H2,Same (cut H1 F) H2→Pr H2)→DenAll X.K (cut H1 F) xs ds→R J H1)→wi σ H R)
  (hg:TgR X.K g n pt) (hm:m=.i∨m=.f) (pE:m=.i→∀ρ ds,fi ρ=el ds→∀d∈ds,∀bs,pt d=el bs→f6 bs=true) (uY:tn.length=n)
  (S:StE X.K M ρ σ H P F) (hf:l0 fi js pt ft fe ρ=el d) (q:∀v H',Same H H'→ResR X.K (.new (.l u)) H H' F v d→Q v H') :
  a4x wi g (spT X.K (T7 (.own m) n M js) ft) (spE X.K (T7 (.own m) n M js) fe (.new u)) (a0K tn js) σ H Q:=by
 obtain⟨ds,h1,g1⟩:=bnd hf;by_cases hz:ds.length≤1000000
 ·rw[aB hz]at g1;obtain⟨res,h2,g2⟩:=bnd g1;cases g2
  refine hi ρ σ H P F ds _ S h1 λJ xs Pr H1 e1 hw sO hx Dl hD=>?_
  have qS:=hx.length;have FT:Dl∉F:=λz=>by obtain⟨zs,w⟩:=S.lst' e1 Dl z;rw[hD]at w;cases w
  refine a9q hw (λi ys σ' H'=>(∃os:L2.St,os.length=n∧σ'=os++js.map λj=>(σ[j]?).getD p4)∧H' Dl=el (.lst ys)∧Same H1 H'∧∃(fp:List au) (zs rs:List D),ListAll (Own X.K H' (Dl::fp++F) u) ys zs fp∧fp.Nodup∧(∀a∈fp,H1 a=p4)∧Dl∉fp∧
    L8 pt ft fe (js.map λj=>ρ.getD j .none) (ds.drop i)=el rs∧res=zs++rs∧ys.length≤i) ?_ ?_ ?_ ?_
  ·exact⟨⟨_,by rw[fW];exact uY,rfl⟩,i6,k6 hD _,[],[],res,m3,bA,λa ha=>(nomatch ha),λh=>(nomatch h),h2,rfl,aD _⟩
  ·rintro i ys σ' H' ⟨_,_,e,_⟩;exact sO H' (i7.trans e)
  ·rintro i x ys σ' H' rR ⟨⟨os,ho,rfl⟩,ui,e2,fp,zs,rs,jt,jl,oG,pR,hc,pC,wx⟩;obtain⟨d,pL,_⟩:=hx.getV rR;have mB:i<ds.length:=(aP.mp pL).1;have lj:ds.drop i=d::ds.drop (i+1):=by
    rw[fw mB]
    congr 1;exact (aP.mp pL).2
   rw[lj]at hc;obtain⟨bs,k,Aj,oS,CZ⟩:=a6W hc;have hfl:∀a∈Dl::fp,∃zs:MuO,H' a=el zs.1:=λa ha=>by
    rcases az.mp ha with z|z
    ·subst z;exact⟨⟨.lst ys,trivial⟩,ui⟩
    ·exact jt.lst (u:=u) (λv d f q=>q.lst u) a z
   have nM:∀a∈Dl::fp,H1 a=p4:=λa ha=>by
    rcases az.mp ha with z|z
    ·subst z;exact hD
    ·exact oG a z
   have S1:StE X.K M ρ σ H' P (Dl::fp++F):=(S.grow e1).more (fp:=Dl::fp) e2 nM hfl;have yM:DenAll X.K (cut H' (Dl::fp++F)) xs ds:=hx.up (a0d (fp:=Dl::fp) e2 nM);obtain⟨d',vw,ti⟩:=yM.getV rR;rw[pL]at vw;cases vw
   refine hg H' _ x d bs _ _ i7 ti Aj (by rw[bg,ho];lia) λvs rS xP=>?_
   rw[List.drop_append_of_le_length (by lia),List.drop_of_length_le (by lia),cA];have SB:StE X.K (T7 (.own m) n M js) (bs++js.map λj=>ρ.getD j .none) (vs.map el++js.map λj=>(σ[j]?).getD p4) H' P (Dl::fp++F):=
    b1s S1 hm rS (λe=>pE e ρ ds h1 d (bo pL) bs Aj) xP rfl
   refine⟨_,P,_,k,SB,oS,λH3 e3=>?_⟩;rcases CZ with⟨rfl,y,rest,CY,yc,rfl⟩|⟨rfl,yc⟩
   ·refine a5s ⟨_,P,_,y,SB.grow e3,CY,λv H4 e4 ⟨gp,o,nd,fr⟩=>?_⟩;have wW:=e3.trans e4;have Aw:Dl∉gp:=λz=>by have w:=fr Dl z;rw[e3 _ _ ui]at w;cases w
    have DD:∀a∈gp,a∉fp:=λa ha z=>by
     obtain⟨zs,w⟩:=hfl a (aq _ z);have w2:=fr a ha;rw[e3 _ _ w]at w2;cases w2
    have jf:∀a,a∈Dl::(fp++gp)++F→a∈gp++(Dl::fp++F):=λa ha=>by
     simp only[bx,az,aF]at ha ⊢;rcases ha with z|(z|z)|z
     ·exact .inr (.inl z)
     ·exact .inr (.inr (.inl z))
     ·exact .inl z
     ·exact .inr (.inr (.inr z))
    have yP:Same (cut H' (Dl::fp++F)) (cut (upd H4 Dl (.lst (ys++[v]))) (Dl::(fp++gp)++F)):=λa o' ha=>by
     obtain⟨n1,n2⟩:=o6 ha;have gj:a≠Dl:=λz=>n1 (by rw[z];exact aL _ aj)
     refine j5 (λz=>?_) (by rw[f7 gj];exact wW _ _ n2);rcases aF.mp (jf a z) with w|w
     ·have:=fr a w;rw[e3 _ _ n2]at this;cases this
     ·exact n1 w
    have DV:Same (cut H4 (gp++(Dl::fp++F))) (cut (upd H4 Dl (.lst (ys++[v]))) (Dl::(fp++gp)++F)):=λa o' ha=>by
     obtain⟨n1,n2⟩:=o6 ha;have gj:a≠Dl:=λz=>n1 (by rw[z];exact ax _ (aL _ aj))
     exact j5 (λz=>n1 (jf a z)) (by rw[f7 gj];exact n2)
    refine⟨wW _ _ ui,?_,⟨_,by rw[ar];exact xP,rfl⟩,i6,?_,fp++gp,zs++[y],rest,?_,?_,?_,?_,yc,by rw[pC,bp];rfl,by rw[bg];simp;lia⟩
    ·exact g_ (cw wx (cw (dE mB) hz)) (by rw[cQ];decide)
    ·exact b1b (e2.trans wW) hD _
    ·refine (l7 yP jt λa ha=>?_).append ?_
     ·rw[f7 (show a≠Dl from λz=>pR (z▸ha))];obtain⟨zs,w⟩:=hfl a (aq _ ha);rw[w,wW _ _ w]
     ·have:=k9 (R:=Own X.K (upd H4 Dl (.lst (ys++[v]))) (Dl::(fp++gp)++F) u) (o.frame DV u λa ha=>f7 (λz=>Aw (z▸ha))) m3
      rwa[bE]at this
    ·rw[aZ];exact⟨jl,nd,λa ha b hb e=>DD b hb (e▸ha)⟩
    ·intro a ha;rcases aF.mp ha with z|z
     ·exact oG a z
     ·exact (e2.trans e3).free (fr a z)
    ·intro z;rcases aF.mp z with w|w
     ·exact pR w
     ·exact Aw w
   ·refine a5r ?_;have yP:Same (cut H' (Dl::fp++F)) (cut H3 (Dl::fp++F)):=A2 e3;refine⟨⟨_,by rw[ar];exact xP,rfl⟩,e3 _ _ ui,e2.trans e3,fp,zs,rs,l7 yP jt λa ha=>?_,jl,oG,pR,yc,pC,by lia⟩;obtain⟨zs,w⟩:=hfl a (aq _ ha);rw[w,e3 _ _ w]
  ·rintro ys σ' H' ⟨_,ui,e2,fp,zs,rs,jt,jl,oG,pR,hc,pC,_⟩;rw[qS,kl]at hc;cases hc
   rw[bE]at pC;subst pC;refine q (.ref Dl) H' (e1.trans e2) ⟨Dl::fp,?_,bt.mpr ⟨pR,jl⟩,λa ha=>?_⟩
   ·simp only[Own];exact .inr ⟨Dl,ys,res,fp,rfl,ui,rfl,rfl,jt⟩
   ·rcases az.mp ha with z|z
    ·subst z;exact e1.free hD
    ·exact e1.free (oG a z)
 ·rw[aI hz]at g1;cases g1
def L9(hc:X.calm=true)(hi:PIX X M tg iter fi)(C:U7 scope X.env.kindOf ys js X.N=true)(hg:∀cl Cl s H fp,PG (L5 X (tn++ys) scope cl Cl s H fp) tg g)(yz:TgR X.K g n pt)(hm:m=.i∨m=.f)
  (pE:m=.i→∀ρ ds,fi ρ=el ds→∀d∈ds,∀bs,pt d=el bs→f6 bs=true) (uY:tn.length=n)
  (ht:∀cl Cl s H fp,PTs (L5 X (tn++ys) scope cl Cl s H fp) ifs (spT X.K (T7 (.own m) n M js) ft)) (he:∀cl Cl s H fp,PX (L5 X (tn++ys) scope cl Cl s H fp) (T7 (.own m) n M js) elt fe (.new u))
  (hs:∀x,eS iter X.env x=pure x:=by intro _;rfl):PX X M (.ListComp elt [⟨tg,iter,ifs,0⟩] scope pos) (l0 fi js pt ft fe) (.new (.l u)):=by
 obtain⟨wi,pi,qi⟩:=hi;exact .mk ⟨_,b1c (te:=spE X.K (T7 (.own m) n M js) fe (.new u)) hc pi C hg ht he hs,λρ σ H P F d Q S hf q=>a3E qi yz hm pE uY S hf q⟩
def V0:∀{X':Cx} {M':List Md},PTs X' [] (spT X'.K M' tT):=λ{X' M'} pins s σ H Q I ⟨ρ,P,F,b,S,hb,q⟩=>by
 cases hb
 exact b3N pins s σ H Q I (q H (Same.refl _))
def a0N(h:PTX X' M' c f):PTs X' [c] (spT X'.K M' f):=b3O h
def a8k:(Ty.f=Ty.i)→∀(ρ ds:List D),fi ρ=el ds→∀d∈ds,∀bs,pt d=el bs→f6 bs=true:=λh=>nomatch h
def a2j:(Ty.i=Ty.i)→∀(ρ ds:List D),iI fi ρ=el ds→∀d∈ds,∀bs,pt1 d=el bs→f6 bs=true:=λ_ ρ ds h d hd bs hb=>by
 obtain⟨es,_,g1⟩:=bnd h;by_cases c:f6 es=true
 ·rw[aB c]at g1;cases g1
  cases hb
  simp only[f6,iM];exact C3 c hd
 ·rw[aI c]at g1;cases g1
def a4L(lo:Int)(n:Nat):f6 (F6 lo n)=true:=by
 have:∀l:List Nat,f6 (l.map λ(k:Nat)=>ay (lo+k))=true:=by
  intro l
  induction l with
  |nil=>simp only[cU,f6]
  |cons x l ih=>simp only[aA,f6,imm,ih,fV]
 exact this _
def b1t:(Ty.i=Ty.i)→∀(ρ ds:List D),iR fa ρ=el ds→∀d∈ds,∀bs,pt1 d=el bs→f6 bs=true:=λ_ ρ ds h d hd bs hb=>by
 obtain⟨x,h1,g1⟩:=bnd h;obtain⟨k,h2,g2⟩:=bnd g1
 split at g2
 ·cases g2
  cases hb
  simp only[f6,iM];exact C3 (a4L _ _) hd
 ·cases g2
end
section
variable {K:ag}{H H' P:Hp}{F F':List au}
theorem StAll.split:∀{A B:List Md} {ρ:List D} {σ:L2.St} {G:List au},StAll K H F (A++B) ρ σ G→∃ρ1 ρ2 σ1 σ2 G1 G2,ρ=ρ1++ρ2∧σ=σ1++σ2∧G=G1++G2∧StAll K H F A ρ1 σ1 G1∧StAll K H F B ρ2 σ2 G2
 |[],B,ρ,σ,G,h=>⟨[],ρ,[],σ,[],G,rfl,rfl,rfl,J8,h⟩
 |m::A,B,_,_,_,h=>by
  simp only[bx,StAll]at h;obtain⟨d,ρ,o,σ,f,g,rfl,rfl,rfl,h1,h2⟩:=h;obtain⟨ρ1,ρ2,σ1,σ2,G1,G2,rfl,rfl,rfl,h3,h4⟩:=StAll.split h2;exact⟨d::ρ1,ρ2,o::σ1,σ2,f++G1,G2,rfl,rfl,by rw[bp],k7 h1 h3,h4⟩
theorem StAll.join:∀{A B:List Md} {ρ1 ρ2:List D} {σ1 σ2:L2.St} {G1 G2:List au},StAll K H F A ρ1 σ1 G1→StAll K H F B ρ2 σ2 G2→StAll K H F (A++B) (ρ1++ρ2) (σ1++σ2) (G1++G2)
 |[],B,_,_,_,_,_,_,h,q=>by
  simp only[StAll]at h;obtain⟨rfl,rfl,rfl⟩:=h;exact q
 |m::A,B,_,_,_,_,_,_,h,q=>by
  simp only[StAll]at h;obtain⟨d,ρ,o,σ,f,g,rfl,rfl,rfl,h1,h2⟩:=h;rw[bp];exact k7 h1 (StAll.join h2 q)
def a5E{α:Type}{a b c d:List α}(h:a++b=c++d)(hl:a.length=c.length):a=c∧b=d:=List.append_inj h hl
def StAll.splitAt{A B:List Md}{ρ1 ρ2:List D}{σ1 σ2:L2.St}(h:StAll K H F (A++B) (ρ1++ρ2) (σ1++σ2) G)(hρ:ρ1.length=A.length)(hσ:σ1.length=A.length):∃G1 G2,G=G1++G2∧StAll K H F A ρ1 σ1 G1∧StAll K H F B ρ2 σ2 G2:=by
 obtain⟨r1,r2,s1,s2,G1,G2,e1,e2,e3,h1,h2⟩:=h.split;obtain⟨l1,l2⟩:=h1.len;obtain⟨rfl,rfl⟩:=a5E e1 (by lia);obtain⟨rfl,rfl⟩:=a5E e2 (by lia);exact⟨G1,G2,e3,h1,h2⟩
theorem a0h:∀{us:List Ty} {vs:List V} {ds:List D} {G:List au},StAll K H F (us.map Md.own) ds (vs.map el) G→OwnTs K H F us vs ds G
 |[],vs,ds,G,h=>by
  simp only[cU,StAll]at h;obtain⟨rfl,e,rfl⟩:=h;have:vs=[]:=by simpa using e
  subst this;simp only[OwnTs];exact⟨trivial,trivial,trivial⟩
 |u::us,vs,ds,G,h=>by
  simp only[aA,StAll]at h;obtain⟨d,ρ,o,σ,f,g,rfl,e,rfl,⟨v,rfl,h1⟩,h2⟩:=h;cases vs with
  |nil=>simp at e
  |cons v' vs=>
   simp only[aA,Gn,ng]at e;obtain⟨rfl,rfl⟩:=e;simp only[OwnTs];exact⟨v',vs,d,ρ,f,g,rfl,rfl,rfl,h1,a0h h2⟩
end
def Pend(K:ag)(Mp:List Md)(ρp:List D)(σp:L2.St)(M:List Md)(ρ:List D)(σ:L2.St)(H P:Hp)(F:List au):Prop:=
 ρp.length=Mp.length∧σp.length=Mp.length∧StR K (Mp++M) (ρp++ρ) (σp++σ) H P F
section
variable {K:ag}{Mp M:List Md}{ρp ρ:List D}{σp σ:L2.St}{H H' P:Hp}{F:List au}
def Pend.e(h:Pend K Mp ρp σp M ρ σ H P F):StE K M ρ σ H P F:=by
 obtain⟨l1,l2,S⟩:=h;obtain⟨G,h1,h2,h3⟩:=S.all;obtain⟨G1,G2,rfl,_,h4⟩:=h1.splitAt l1 l2;exact⟨⟨G2,h4,λa ha=>h3 a (ax _ ha)⟩,S.lst,S.prot⟩
theorem Pend.grow(h:Pend K Mp ρp σp M ρ σ H P F)(e:Same H H'):Pend K Mp ρp σp M ρ σ H' P F:=⟨h.1,h.2.1,h.2.2.grow e⟩
def Pend.new(h:Pend K Mp ρp σp M ρ σ H P F)(e:Same H H')(o:Own K H' (fp++F) u v d fp)(nd:fp.Nodup)(fr:∀a∈fp,H a=p4):Pend K (Mp++[.own u]) (ρp++[d]) (σp++[el v]) M ρ σ H' P (fp++F):=by
 obtain⟨l1,l2,S⟩:=h;refine⟨by simp[l1],by simp[l2],?_⟩;have S1:=S.more e fr (o.lst u);obtain⟨G,h1,h2,h3⟩:=S.all;obtain⟨G1,G2,rfl,h4,h5⟩:=h1.splitAt l1 l2;have hc:Same (cut H F) (cut H' (fp++F)):=a0d e fr;have k:∀a∈G1++G2,H' a=H a:=λa ha=>S.toE.keep e a (h3 a ha)
 have q:=(h4.frame hc λa ha=>k a (aL _ ha)).join ((k7 (m:=.own u) (d:=d) (o:=el v) (f:=fp) ⟨v,rfl,o⟩ (h5.frame hc λa ha=>k a (ax _ ha))));refine⟨⟨G1++(fp++G2),by simpa using q,a0L h2 nd λa ha z=>?_,λa ha=>?_⟩,S1.lst,S1.prot⟩
 ·obtain⟨ys,w⟩:=S.lst a (h3 a z);rw[fr a ha]at w;cases w
 ·rcases a4B ha with z|z
  ·exact aL _ z
  ·exact ax _ (h3 a z)
def Pend.move(h:Pend K Mp ρp σp M ρ σ H P F)(hm:M[i]?=el (.own u)):∃v,σ[i]?=el (el v)∧Pend K (Mp++[.own u]) (ρp++[ρ.getD i .none]) (σp++[el v]) (M.set i .dead) ρ σ H P F:=by
 obtain⟨l1,l2,S⟩:=h;obtain⟨G,h1,h2,h3⟩:=S.all;obtain⟨G1,G2,rfl,h4,h5⟩:=h1.splitAt l1 l2;obtain⟨d,o,f,pre,post,e1,e2,⟨v,rfl,e3⟩,rfl,e5⟩:=h5.at_ hm;have q:=e5 H F .dead d (el v) [] (λ_ _=>rfl) (Same.refl _) rfl;rw[set_same e1,set_same e2]at q;refine⟨v,e2,by simp[l1],by simp[l2],⟨⟨G1++(f++(pre++([]++post))),?_,?_,λa ha=>h3 a ?_⟩,S.lst,S.prot⟩⟩
 ·have:=h4.join (k7 (m:=.own u) (d:=d) (o:=el v) (f:=f) ⟨v,rfl,e3⟩ q);rw[z8 e1];simpa using this
 ·rw[cA];refine (List.Perm.nodup_iff ?_).mp h2;refine uw G1 ?_;exact List.perm_append_comm_assoc pre f post
 ·simp only[aF,cA]at ha ⊢;rcases ha with z|z|z|z
  ·exact .inl z
  ·exact .inr (.inr (.inl z))
  ·exact .inr (.inl z)
  ·exact .inr (.inr (.inr z))
end
noncomputable def PMX(X:Cx)(M:List Md)(e:Expr)(f:EvE)(u:Ty)(M1:List Md):Prop:=
 ∃t,PE X e t∧∀(Mp:List Md) (ρp:List D) (σp:L2.St) (ρ:List D) (σ:L2.St) (H P:Hp) (F:List au) (d:D) (Q:VK),Pend X.K Mp ρp σp M ρ σ H P F→f ρ=el d→
  (∀v H' F',Same H H'→Pend X.K (Mp++[.own u]) (ρp++[d]) (σp++[el v]) M1 ρ σ H' P F'→Q v H')→t σ H Q
section
variable {X:Cx}{M M1 M2:List Md}{e:Expr}{es:List Expr}{f:EvE}{fa:EvA}{u:Ty}{us:List Ty}{pos:ff}
def b9(h:PX X M e f (.new u)):PMX X M e f u M:=by
 obtain⟨t,p,q⟩:=h.out;refine⟨t,p,λMp ρp σp ρ σ H P F d Q S hf k=>q ρ σ H P F d Q S.e hf λv H' e ⟨fp,o,nd,fr⟩=>k v H' _ e (S.new e o nd fr)⟩
def V1(i:Nat)(hN:X.N[i]?=el x:=by rfl)(hv:Vis X.env.scope x:=by first|exact cn rfl|exact bY (cn rfl)|exact bY (bY rfl))(hd:(x==("__debug__":bC))=false:=by decide)
  (iJ:(x==("__classdict__":bC))=false:=by decide) (hm:M[i]?=el (.own u):=by rfl):PMX X M (.Name x pos) (b7 i) u (M.set i .dead):=by
 refine⟨_,C0 hN hv hd iJ,λMp ρp σp ρ σ H P F d Q S hf k=>?_⟩;cases hf
 obtain⟨v,e,S'⟩:=S.move hm;exact⟨v,e,k v H F (Same.refl _) S'⟩
end
def dAt:Ty→D→List Nat→Option (Ty×D)
 |u,d,[]=>el (u,d)
 |.l u,.list ds,j::p=>(ds[j]?).bind λd=>dAt u d p
 |.tp us,.tuple ds,j::p=>(us[j]?).bind λu=>(ds[j]?).bind λd=>dAt u d p
 |_,_,_=>p4
def a2k:D→List Nat→D→D
 |_,[],e=>e
 |.list ds,j::p,e=>.list (ds.set j (a2k (ds.getD j .none) p e))
 |.tuple ds,j::p,e=>.tuple (ds.set j (a2k (ds.getD j .none) p e))
 |d,_,_=>d
def wk(H:Hp):V→List Nat→V→Prop
 |v,[],w=>w=v
 |v,j::p,w=>∃a xs v1,v=.ref a∧(H a=el (.lst xs)∨H a=el (.tup xs))∧xs[j]?=el v1∧wk H v1 p w
theorem b5w(e:Same H H'):∀{p:List Nat} {v w:V},wk H v p w→wk H' v p w
 |[],_,_,h=>h
 |j::p,_,_,h=>by
  obtain⟨a,xs,v1,h1,h2,h3,h4⟩:=h;exact⟨a,xs,v1,h1,h2.imp (e _ _) (e _ _),h3,b5w e h4⟩
section
variable {K:ag}{H H':Hp}{F F':List au}
theorem ListAll.zip:∀{ds:List D} {xs:List V} {fp:List au} {j:Nat} {d:D},ListAll (Own K H F u) xs ds fp→ds[j]?=el d→
  ∃v f pre post,xs[j]?=el v∧Own K H F u v d f∧fp=pre++(f++post)∧
   ∀(H':Hp) (F':List au) (v':V) (d':D) (f':List au),(∀a∈pre++post,H' a=H a)→Same (cut H F) (cut H' F')→Own K H' F' u v' d' f'→ListAll (Own K H' F' u) (xs.set j v') (ds.set j d') (pre++(f'++post))
 |[],_,_,j,d,_,e=>by simp at e
 |d0::ds,_,_,0,d,h,e=>by
  obtain⟨v,r,f,g,rfl,rfl,h1,h2⟩:=h.cons_inv;have:d0=d:=by simpa using e
  subst this;refine⟨v,f,[],g,rfl,h1,rfl,λH' F' v' d' f' k e' o=>?_⟩;show ListAll (Own K H' F' u) (v'::r) (d'::ds) (f'++g);exact k9 o (l7 e' h2 k)
 |d0::ds,_,_,j+1,d,h,e=>by
  obtain⟨v,r,f,g,rfl,rfl,h1,h2⟩:=h.cons_inv;obtain⟨w,f',pre,post,e1,e2,e3,e4⟩:=ListAll.zip (j:=j) h2 (by simpa using e);subst e3;refine⟨w,f',f++pre,post,by simpa using e1,e2,by rw[bp],λH' F' v' d' g' k e' o=>?_⟩;rw[bp];refine k9 (h1.frame e' u λa ha=>k a ?_) (e4 H' F' v' d' g' (λa ha=>k a ?_) e' o)
  ·rw[bp];exact aL _ ha
  ·rw[bp];exact ax _ ha
theorem OwnTs.zip:∀{us:List Ty} {ds:List D} {xs:List V} {fp:List au} {j:Nat} {u:Ty} {d:D},OwnTs K H F us xs ds fp→us[j]?=el u→ds[j]?=el d→
  ∃v f pre post,xs[j]?=el v∧Own K H F u v d f∧fp=pre++(f++post)∧
   ∀(H':Hp) (F':List au) (d':D) (f':List au),(∀a∈pre++post,H' a=H a)→Same (cut H F) (cut H' F')→Own K H' F' u v d' f'→OwnTs K H' F' us xs (ds.set j d') (pre++(f'++post))
 |[],_,_,_,j,u,d,_,e,_=>by simp at e
 |u0::us,_,_,_,0,u,d,h,e,e'=>by
  simp only[OwnTs]at h;obtain⟨v,r,d0,ds,f,g,rfl,rfl,rfl,h1,h2⟩:=h;have:u0=u:=by simpa using e
  subst this;have:d0=d:=by simpa using e'
  subst this;refine⟨v,f,[],g,rfl,h1,rfl,λH' F' d' f' k e' o=>?_⟩;show OwnTs K H' F' (u0::us) (v::r) (d'::ds) (f'++g);simp only[OwnTs];exact⟨v,r,d',ds,f',g,rfl,rfl,rfl,o,h2.frame e' us k⟩
 |u0::us,_,_,_,j+1,u,d,h,e,e'=>by
  simp only[OwnTs]at h;obtain⟨v,r,d0,ds,f,g,rfl,rfl,rfl,h1,h2⟩:=h;obtain⟨w,f',pre,post,e1,e2,e3,e4⟩:=OwnTs.zip (j:=j) h2 (by simpa using e) (by simpa using e');subst e3;refine⟨w,f',f++pre,post,by simpa using e1,e2,by rw[bp],λH' F' d' g' k e' o=>?_⟩;rw[bp];show OwnTs K H' F' (u0::us) (v::r) (d0::ds.set j d') (f++(pre++(g'++post)));simp only[OwnTs];refine⟨v,r,d0,_,f,_,rfl,rfl,rfl,h1.frame e' u0 λa ha=>k a ?_,e4 H' F' d' g' (λa ha=>k a ?_) e' o⟩
  ·rw[bp];exact aL _ ha
  ·rw[bp];exact ax _ ha
theorem Own.path:∀(p:List Nat) {u t:Ty} {v w:V} {d:D} {fp:List au} {ds:List D},Own K H F u v d fp→dAt u d p=el (.l t,.list ds)→wk H v p w→
  ∃b xs fs pre post,w=.ref b∧H b=el (.lst xs)∧fp=pre++((b::fs)++post)∧ListAll (Own K H F t) xs ds fs∧
   ∀(H':Hp) (F':List au) (lJ:List V) (iw:List D) (jZ:List au),(∀a∈pre++post,H' a=H a)→Same (cut H F) (cut H' F')→H' b=el (.lst lJ)→ListAll (Own K H' F' t) lJ iw jZ→
    Own K H' F' u v (a2k d p (.list iw)) (pre++((b::jZ)++post))
 |[],u,t,v,w,d,fp,ds,h,hd,hw=>by
  have km:el (u,d)=el (.l t,.list ds):=hd;cases km
  have CJ:w=v:=hw;subst CJ;simp only[Own]at h;rcases h with⟨_,hi,_⟩|⟨a,xs,iw,fs,rfl,h1,h2,rfl,h3⟩
  ·simp only[imm]at hi;cases hi
  ·cases h2
   refine⟨a,xs,fs,[],[],rfl,h1,by simp,h3,λH' F' lJ iw jZ _ _ k o=>?_⟩;simp only[Own,a2k,cA,bE];exact .inr ⟨a,lJ,iw,jZ,rfl,k,rfl,rfl,o⟩
 |j::p,u,t,v,w,d,fp,ds,h,hd,hw=>by
  obtain⟨a0,uA,v1,rfl,wy,ug,hw⟩:=hw;cases u with
  |l u=>
   cases d with
   |list es=>
    have km:(es[j]?).bind (λd=>dAt u d p)=el (.l t,.list ds):=hd;obtain⟨d1,g1,g2⟩:=bnd km;simp only[Own]at h;rcases h with⟨_,hi,_⟩|⟨a,xs,eX,fs,e0,h1,h2,rfl,h3⟩
    ·simp only[imm]at hi;cases hi
    ·cases h2
     cases e0
     have xN:uA=xs:=by rcases wy with z|z<;>rw[h1]at z<;>cases z;rfl
     subst xN;obtain⟨v2,f,pre,post,z1,z2,rfl,z4⟩:=h3.zip g1;rw[ug]at z1;cases z1
     obtain⟨b,ys,jZ,ml,jY,rfl,q2,rfl,q4,q5⟩:=Own.path p z2 g2 hw;refine⟨b,ys,jZ,a0::(pre++ml),jY++post,rfl,q2,by simp,q4,λH' F' lJ iw yZ k e' hb o=>?_⟩;have k1:∀a∈pre++post,H' a=H a:=λa ha=>k a (by simp only[aF,az]at ha ⊢;rcases ha with z|z;exact .inl (.inr (.inl z));exact .inr (.inr z))
     have k2:∀a∈ml++jY,H' a=H a:=λa ha=>k a (by simp only[aF,az]at ha ⊢;rcases ha with z|z;exact .inl (.inr (.inr z));exact .inr (.inl z))
     have o1:=q5 H' F' lJ iw yZ k2 e' hb o;have o2:=z4 H' F' _ _ _ k1 e' o1;rw[set_same ug]at o2;show Own K H' F' (.l u) (.ref a0) (.list (es.set j (a2k (es.getD j .none) p (.list iw)))) _;rw[z8 g1];simp only[Own];refine .inr ⟨a0,uA,_,_,rfl,(k a0 (by simp)).trans h1,rfl,?_,o2⟩;simp
   |_=>cases hd
  |tp us=>
   cases d with
   |tuple es=>
    have km:(us[j]?).bind (λu=>(es[j]?).bind λd=>dAt u d p)=el (.l t,.list ds):=hd;obtain⟨u1,g0,Ez⟩:=bnd km;obtain⟨d1,g1,g2⟩:=bnd Ez;simp only[Own]at h;obtain⟨a,xs,eX,e0,h1,h0,h2,h3⟩:=h;cases h2
    cases e0
    have xN:uA=xs:=by rcases wy with z|z<;>rw[h1]at z<;>cases z;rfl
    subst xN;obtain⟨v2,f,pre,post,z1,z2,rfl,z4⟩:=h3.zip g0 g1;rw[ug]at z1;cases z1
    obtain⟨b,ys,jZ,ml,jY,rfl,q2,rfl,q4,q5⟩:=Own.path p z2 g2 hw;refine⟨b,ys,jZ,pre++ml,jY++post,rfl,q2,by simp,q4,λH' F' lJ iw yZ k e' hb o=>?_⟩;have k1:∀a∈pre++post,H' a=H a:=λa ha=>k a (by simp only[aF]at ha ⊢;rcases ha with z|z;exact .inl (.inl z);exact .inr (.inr z))
    have k2:∀a∈ml++jY,H' a=H a:=λa ha=>k a (by simp only[aF]at ha ⊢;rcases ha with z|z;exact .inl (.inr z);exact .inr (.inl z))
    have o1:=q5 H' F' lJ iw yZ k2 e' hb o;have o2:=z4 H' F' _ _ k1 e' o1;show Own K H' F' (.tp us) (.ref a0) (.tuple (es.set j (a2k (es.getD j .none) p (.list iw)))) _;rw[z8 g1];obtain⟨n1,n2⟩:=o6 (e' a0 _ (j5 h0 h1));simp only[Own];refine⟨a0,uA,_,rfl,n2,n1,rfl,?_⟩;simpa using o2
   |_=>cases hd
  |i=>cases hd
  |f=>cases hd
  |d kt u=>cases hd
def O0{N O:List au}(h:O.Nodup)(k:∀a,N.count a≤O.count a):N.Nodup:=cI.mpr λa=>cw (k a) (cI.mp h a)
def Pend.put(h:Pend K ([]++[.own t]) ([]++[d]) ([]++[el v]) M ρ σ H P F)(hm:M[i]?=el (.own u))(h0:σ[i]?=el (el v0))(hd:dAt u (ρ.getD i .none) p=el (.l t,.list ds))(hw:wk H v0 p w) :
  ∃b xs,w=.ref b∧H b=el (.lst xs)∧xs.length=ds.length∧StR K M (ρ.set i (a2k (ρ.getD i .none) p (.list (ds++[d])))) σ (upd H b (.lst (xs++[v]))) P F∧
   ∀j,j<ds.length→StR K M (ρ.set i (a2k (ρ.getD i .none) p (.list (ds.set j d)))) σ (upd H b (.lst (xs.set j v))) P F:=by
 obtain⟨_,_,S⟩:=h;obtain⟨G,h1,h2,h3⟩:=S.all;have lx:StAll K H F (.own t::M) (d::ρ) (el v::σ) G:=by simpa using h1
 simp only[StAll]at lx;obtain⟨d',ρ',o',σ',fv,G2,e1,e2,rfl,⟨v',e3,ov⟩,h5⟩:=lx;cases e1
 cases e2
 cases e3
 obtain⟨dd,oo,f,pre,post,q1,q2,⟨v2,rfl,q3⟩,rfl,q5⟩:=h5.at_ hm;rw[h0]at q2;cases q2
 rw[z8 q1]at hd;obtain⟨b,xs,fs,ml,jY,rfl,r2,rfl,r4,r5⟩:=q3.path p hd hw;have se:b∈F:=h3 b (by simp);have fB:∀o,Same (cut H F) (cut (upd H b o) F):=λo a o' ha=>by
  obtain⟨n1,n2⟩:=o6 ha;exact j5 n1 (by rw[f7 (show a≠b from λz=>n1 (z▸se))];exact n2)
 have iu:∀a,a≠b∨(pre++post).count a=0∧(ml++jY).count a=0∧fs.count a=0∧fv.count a=0:=λa=>by
  by_cases e:a=b
  ·subst e;have:=cI.mp h2 a;simp only[bc,bx,gy]at this ⊢;exact .inr ⟨by lia,by lia,by lia,by lia⟩
  ·exact .inl e
 have kk:∀(l:List au) (o:HO),(∀a,a=b→l.count a=0)→∀a∈l,upd H b o a=H a:=λl o hc a ha=>f7 λz=>by
  have:=hc a z;rw[dH]at this;exact this ha
 have c1:∀a,a=b→(pre++post).count a=0:=λa e=>((iu a).resolve_left (λn=>n e)).1
 have c2:∀a,a=b→(ml++jY).count a=0:=λa e=>((iu a).resolve_left (λn=>n e)).2.1
 have c3:∀a,a=b→fs.count a=0:=λa e=>((iu a).resolve_left (λn=>n e)).2.2.1
 have c4:∀a,a=b→fv.count a=0:=λa e=>((iu a).resolve_left (λn=>n e)).2.2.2
 have fin:∀(lJ:List V) (iw:List D) (jZ:List au),ListAll (Own K (upd H b (.lst lJ)) F t) lJ iw jZ→(∀a,jZ.count a≤fs.count a+fv.count a)→StR K M (ρ.set i (a2k dd p (.list iw))) σ (upd H b (.lst lJ)) P F:=λlJ iw jZ ha nN=>by
  have o1:=r5 (upd H b (.lst lJ)) F lJ iw jZ (kk _ _ c2) (fB _) i6 ha;have q:=q5 (upd H b (.lst lJ)) F (.own u) (a2k dd p (.list iw)) (el v0) _ (kk _ _ c1) (fB _) ⟨v0,rfl,o1⟩;rw[set_same (l:=σ) h0,set_same (l:=M) hm]at q;refine⟨⟨_,q,O0 h2 λa=>?_,λa ha=>?_⟩,λa ha=>?_,S.prot.trans (fB _)⟩
  ·have:=nN a;simp only[bc,bx,du];lia
  ·have hc:0<(fv++(pre++(ml++(b::fs++jY)++post))).count a:=by
    have h0:=dm.mpr ha;have:=nN a;simp only[bc,bx,du]at h0 ⊢;lia
   exact h3 a (dm.mp hc)
  ·by_cases e:a=b
   ·subst e;exact⟨⟨.lst lJ,trivial⟩,i6⟩
   ·obtain⟨ys,y⟩:=S.lst a ha;exact⟨ys,by rw[f7 e];exact y⟩
 rw[z8 q1];refine⟨b,xs,rfl,r2,r4.length,fin (xs++[v]) (ds++[d]) (fs++fv) ?_ λa=>by rw[bc];exact aD _,λj hj=>?_⟩
 ·refine (l7 (fB _) r4 (kk _ _ c3)).append ?_;have:=k9 (R:=Own K (upd H b (.lst (xs++[v]))) F t) (ov.frame (fB _) t (kk _ _ c4)) m3
  rwa[bE]at this
 ·obtain⟨v3,f3,a1,a2,s1,s2,rfl,s4⟩:=r4.zip (ak hj);have c5:∀a,a=b→(a1++a2).count a=0:=λa e=>by have:=c3 a e;simp only[bc]at this ⊢;lia
  refine fin (xs.set j v) (ds.set j d) (a1++(fv++a2)) (s4 _ F v d fv (kk _ _ c5) (fB _) (ov.frame (fB _) t (kk _ _ c4))) λa=>?_
  simp only[bc];lia
end
inductive Out where
 |nx (ρ:List D)|rt (d:D)|bk (ρ:List D)|ct (ρ:List D)
abbrev EvS:=List D→Option Out
def EndsOk(K:ag)(P:Hp)(u:Ty)(ML M:List Md)(D:Ends)(o:Out):Prop:=
 match o with
 |.nx ρ=>∀σ H F,StR K M ρ σ H P F→D.nx σ H
 |.rt d=>∀v H fp,Own K H fp u v d fp→fp.Nodup→(∀a∈fp,P a=p4)→Same P H→D.rt v H
 |.bk ρ=>∀σ H F,StR K ML ρ σ H P F→D.bk σ H
 |.ct ρ=>∀σ H F,StR K ML ρ σ H P F→D.ct σ H
noncomputable def spS(K:ag)(u:Ty)(ML M:List Md)(g:EvS)(M':List Md):TS:=λD σ H=>∃(ρ:List VS.D) (P:Hp) (F:List au) (o:Out),StR K M ρ σ H P F∧g ρ=el o∧EndsOk K P u ML M' D o
noncomputable def PSX(X:Cx)(u:Ty)(ML M:List Md)(st:gM)(g:EvS)(M':List Md):Prop:=PS X st (spS X.K u ML M g M')
noncomputable def PSsX(X:Cx)(u:Ty)(ML M:List Md)(sts:List gM)(g:EvS)(M':List Md):Prop:=PSs X sts (spS X.K u ML M g M')
section
variable {X:Cx}{u:Ty}{ML M M':List Md}{st:gM}{sts:List gM}{g:EvS}
def PSX.mk(h:∃t,PS X st t∧∀(D:Ends) (ρ:List VS.D) (σ:L2.St) (H P:Hp) (F:List au) (o:Out),StR X.K M ρ σ H P F→g ρ=el o→EndsOk X.K P u ML M' D o→t D σ H):PSX X u ML M st g M':=by
 obtain⟨t,p,q⟩:=h;exact λpins s σ H D I ⟨ρ,P,F,o,S,hg,k⟩=>p pins s σ H D I (q D ρ σ H P F o S hg k)
def PSX.out(h:PSX X u ML M st g M'):∃t,PS X st t∧∀(D:Ends) (ρ:List VS.D) (σ:L2.St) (H P:Hp) (F:List au) (o:Out),StR X.K M ρ σ H P F→g ρ=el o→EndsOk X.K P u ML M' D o→t D σ H:=
 ⟨_,h,λ_ ρ _ _ P F o S hg k=>⟨ρ,P,F,o,S,hg,k⟩⟩
def PSsX.mk(h:∃t,PSs X sts t∧∀(D:Ends) (ρ:List VS.D) (σ:L2.St) (H P:Hp) (F:List au) (o:Out),StR X.K M ρ σ H P F→g ρ=el o→EndsOk X.K P u ML M' D o→t D σ H):PSsX X u ML M sts g M':=by
 obtain⟨t,p,q⟩:=h;exact λpins s σ H D I ⟨ρ,P,F,o,S,hg,k⟩=>p pins s σ H D I (q D ρ σ H P F o S hg k)
def PSsX.out(h:PSsX X u ML M sts g M'):∃t,PSs X sts t∧∀(D:Ends) (ρ:List VS.D) (σ:L2.St) (H P:Hp) (F:List au) (o:Out),StR X.K M ρ σ H P F→g ρ=el o→EndsOk X.K P u ML M' D o→t D σ H:=
 ⟨_,h,λ_ ρ _ _ P F o S hg k=>⟨ρ,P,F,o,S,hg,k⟩⟩
end
def Wk(M M1:List Md):Prop:=∀(K:ag) (ρ:List D) (σ:L2.St) (H P:Hp) (F:List au),StR K M ρ σ H P F→∃F',StR K M1 ρ σ H P F'
def l8:Wk M M:=λ_ _ _ _ _ F S=>⟨F,S⟩
def Wk.trans(a:Wk M M1)(b:Wk M1 M2):Wk M M2:=λK ρ σ H P F S=>by
 obtain⟨F1,S1⟩:=a K ρ σ H P F S;exact b K ρ σ H P F1 S1
def k8{M:List Md}(i:Nat)(h:M[i]?=el m:=by rfl):Wk M (M.set i .dead):=λK ρ σ H P F S=>⟨F,S.dead h⟩
def G9{M:List Md}(i:Nat)(h:M[i]?=el (.own u):=by rfl):Wk M (M.set i (.own .f)):=λK ρ σ H P F S=>S.freeze h
noncomputable def q8:EvS:=λρ=>el (.nx ρ)
noncomputable def i4(a b:EvS):EvS:=λρ=>(a ρ).bind λo=>match o with
 |.nx ρ'=>b ρ'
 |o=>el o
noncomputable def j8(i:Nat)(f:EvE):EvS:=λρ=>(f ρ).bind λd=>el (.nx (ρ.set i d))
def asP:D→Option (D×D)
 |.tuple [a,b]=>el (a,b)
 |_=>p4
noncomputable def a3F(i j:Nat)(f:EvE):EvS:=λρ=>(f ρ).bind λd=>(asP d).bind λp=>el (.nx ((ρ.set i p.1).set j p.2))
noncomputable def n5(f:EvE):EvS:=λρ=>(f ρ).bind λd=>el (.rt d)
noncomputable def sEx(f:EvE):EvS:=λρ=>(f ρ).bind λ_=>el (.nx ρ)
noncomputable def sIf(c:EvT)(a b:EvS):EvS:=λρ=>(c ρ).bind λk=>if k then a ρ else b ρ
noncomputable def b1u:EvS:=λρ=>el (.ct ρ)
noncomputable def sNo:EvS:=λ_=>p4
noncomputable def O1(set:List D→D→Option (List D))(g:EvS):List D→List D→Option Out
 |[],ρ=>el (.nx ρ)
 |d::ds,ρ=>(set ρ d).bind λρ1=>(g ρ1).bind λo=>match o with
  |.nx ρ'=>O1 set g ds ρ'
  |.ct ρ'=>O1 set g ds ρ'
  |.bk ρ'=>el (.nx ρ')
  |.rt d=>el (.rt d)
def x9(i:Nat):List D→D→Option (List D):=λρ d=>el (ρ.set i d)
def a9r(i j:Nat):List D→D→Option (List D):=λρ d=>(asP d).bind λp=>el ((ρ.set i p.1).set j p.2)
noncomputable def E1(fi:EvA)(set:List D→D→Option (List D))(g:EvS):EvS:=λρ=>(fi ρ).bind λds=>O1 set g ds ρ
noncomputable def whL(c:EvT)(g:EvS):Nat→List D→Option Out
 |0,_=>p4
 |n+1,ρ=>(c ρ).bind λk=>if k then (g ρ).bind λo=>match o with
  |.nx ρ'=>whL c g n ρ'
  |.ct ρ'=>whL c g n ρ'
  |.bk ρ'=>el (.nx ρ')
  |.rt d=>el (.rt d)
  else el (.nx ρ)
noncomputable def sWh(n:List D→Nat)(c:EvT)(g:EvS):EvS:=λρ=>whL c g (n ρ) ρ
section
variable {K:ag}{M M1:List Md}{ρ:List D}{σ:L2.St}{H P:Hp}{F:List au}
def StR.pend(S:StR K M ρ σ H P F):Pend K [] [] [] M ρ σ H P F:=⟨rfl,rfl,S⟩
def Pend.store(h:Pend K (Mp++[.own u]) (ρp++[d]) (σp++[el v]) M ρ σ H P F)(lp:ρp.length=Mp.length)(lq:σp.length=Mp.length)(hm:M[i]?=el m) :
  Pend K Mp ρp σp (M.set i (.own u)) (ρ.set i d) (σ.set i (el v)) H P F:=by
 obtain⟨_,_,S⟩:=h;obtain⟨G,h1,h2,h3⟩:=S.all;obtain⟨G1,G2,rfl,h4,h5⟩:=h1.splitAt (by simp[lp]) (by simp[lq]);obtain⟨G3,G4,rfl,h6,h7⟩:=h4.splitAt lp lq;have h8:OwnTs K H F [u] [v] [d] G4:=a0h (us:=[u]) (vs:=[v]) h7;simp only[OwnTs]at h8;obtain⟨v',r,d',e,f,g,e1,e2,rfl,o,rfl,rfl,rfl⟩:=h8;cases e1
 cases e2
 obtain⟨d0,o0,f0,pre,post,q1,q2,q3,rfl,q5⟩:=h5.at_ hm;have q:=h6.join (q5 H F (.own u) d (el v) f (λ_ _=>rfl) (Same.refl _) ⟨v,rfl,o⟩);refine⟨lp,lq,⟨⟨_,q,O0 h2 λa=>?_,λa ha=>h3 a ?_⟩,S.lst,S.prot⟩⟩
 ·simp only[bc];lia
 ·simp only[aF,bE]at ha ⊢;rcases ha with z|z|z|z
  ·exact .inl (.inl z)
  ·exact .inr (.inl z)
  ·exact .inl (.inr z)
  ·exact .inr (.inr (.inr z))
def Pend.st(h:Pend K [] [] [] M ρ σ H P F):StR K M ρ σ H P F:=h.2.2
def Pend.one(h:Pend K ([]++[.own u]) ([]++[d]) ([]++[el v]) M ρ σ H P F):∃fp,Own K H F u v d fp∧fp.Nodup∧∀a∈fp,a∈F:=by
 obtain⟨_,_,S⟩:=h;obtain⟨G,h1,h2,h3⟩:=S.all;obtain⟨G1,G2,rfl,h4,h5⟩:=h1.splitAt (A:=[]++[.own u]) (ρ1:=[]++[d]) (σ1:=[]++[el v]) rfl rfl;have h8:OwnTs K H F [u] [v] [d] G1:=a0h (us:=[u]) (vs:=[v]) h4;simp only[OwnTs]at h8;obtain⟨v',r,d',e,f,g,e1,e2,rfl,o,rfl,rfl,rfl⟩:=h8;cases e1
 cases e2
 rw[bE]at h2 h3;exact⟨f,o,(aZ.mp h2).1,λa ha=>h3 a (aL _ ha)⟩
def b5x(u u1 u2:Ty):Prop:=(u=.f∧u1=.f∧u2=.f)∨(u=.i∧u1=.i∧u2=.i)∨u=.tp [u1,u2]
def Pend.untup(h:Pend K ([]++[.own u]) ([]++[.tuple [d1,d2]]) ([]++[el v]) M ρ σ H P F)(hp:b5x u u1 u2) :
  ∃a v1 v2,v=.ref a∧SqT K H a [v1,v2]∧Pend K ([.own u1]++[.own u2]) ([d1]++[d2]) ([el v1]++[el v2]) M ρ σ H P F:=by
 obtain⟨_,_,S⟩:=h;obtain⟨G,h1,h2,h3⟩:=S.all;obtain⟨G1,G2,rfl,h4,h5⟩:=h1.splitAt (A:=[]++[.own u]) (ρ1:=[]++[.tuple [d1,d2]]) (σ1:=[]++[el v]) rfl rfl;have h8:OwnTs K H F [u] [v] [.tuple [d1,d2]] G1:=a0h (us:=[u]) (vs:=[v]) h4;simp only[OwnTs]at h8;obtain⟨v',r,d',e,f,g,e1,e2,rfl,o,rfl,rfl,rfl⟩:=h8;cases e1
 cases e2
 have key:∃a v1 v2 f1 f2,v=.ref a∧SqT K H a [v1,v2]∧f=f1++f2∧Own K H F u1 v1 d1 f1∧Own K H F u2 v2 d2 f2:=by
  rcases hp with⟨rfl,rfl,rfl⟩|⟨rfl,rfl,rfl⟩|rfl
  ·obtain⟨rfl,o'⟩:=a8g o;obtain⟨a,xs,rfl,k1,k2⟩:=o'.tup_inv;obtain⟨v1,v2,rfl,k3,k4⟩:=a4H k2;refine⟨a,v1,v2,[],[],rfl,Q0 k1 i7,rfl,?_,?_⟩<;>simp only[Own]
   ·exact⟨trivial,k3⟩
   ·exact⟨trivial,k4⟩
  ·obtain⟨rfl,hi,o'⟩:=T6 o;obtain⟨a,xs,rfl,k1,k2⟩:=o'.tup_inv;obtain⟨v1,v2,rfl,k3,k4⟩:=a4H k2;simp only[imm,f6,av]at hi;refine⟨a,v1,v2,[],[],rfl,Q0 k1 i7,rfl,?_,?_⟩<;>simp only[Own]
   ·exact⟨trivial,hi.1,k3⟩
   ·exact⟨trivial,hi.2.1,k4⟩
  ·simp only[Own,OwnTs]at o;obtain⟨a,xs,ds,rfl,k1,_,e0,v1,r,Ge,e',f1,g1,rfl,e2,rfl,o1,v2,r2,Gd,Gc,f2,g2,rfl,e3,rfl,o2,rfl,rfl,rfl⟩:=o;cases e0
   cases e2
   cases e3
   exact⟨a,v1,v2,f1,f2,rfl,SqT.of k1,by simp,o1,o2⟩
 obtain⟨a,v1,v2,f1,f2,rfl,k1,rfl,o1,o2⟩:=key;refine⟨a,v1,v2,rfl,k1,rfl,rfl,⟨⟨f1++(f2++G2),?_,by simpa using h2,λa ha=>h3 a (by simpa using ha)⟩,S.lst,S.prot⟩⟩;exact k7 (m:=.own u1) ⟨v1,rfl,o1⟩ (k7 (m:=.own u2) ⟨v2,rfl,o2⟩ h5)
end
section
variable {X:Cx}{u t:Ty}{ML M M1 M2 M':List Md}{st:gM}{sts body A_:List gM}{g g1 g2:EvS}{e tg iter:Expr}{f:EvE}{fc:EvT}{fi:EvA}{c:Cat}{pos:ff}
def EndsOk.pre{K:ag}{P:Hp}{D:Ends}{o:Out}(h:EndsOk K P u ML M' D o)(hw:Wk M M'):EndsOk K P u ML M D o:=by
 cases o with
 |nx ρ=>exact λσ H F S=>by obtain⟨F',S'⟩:=hw K ρ σ H P F S;exact h σ H F' S'
 |rt d=>exact h
 |bk ρ=>exact h
 |ct ρ=>exact h
def PSsX.weak(h:PSsX X u ML M1 sts g M2)(a:Wk M M1)(b:Wk M2 M'):PSsX X u ML M sts g M':=by
 obtain⟨t,p,q⟩:=h.out;refine .mk ⟨t,p,λD ρ σ H P F o S hg k=>?_⟩;obtain⟨F1,S1⟩:=a _ ρ σ H P F S;exact q D ρ σ H P F1 o S1 hg (k.pre b)
def PSX.weak(h:PSX X u ML M1 st g M2)(a:Wk M M1)(b:Wk M2 M'):PSX X u ML M st g M':=by
 obtain⟨t,p,q⟩:=h.out;refine .mk ⟨t,p,λD ρ σ H P F o S hg k=>?_⟩;obtain⟨F1,S1⟩:=a _ ρ σ H P F S;exact q D ρ σ H P F1 o S1 hg (k.pre b)
def s9:PSsX X u ML M [] q8 M:=.mk ⟨_,a4q,λD ρ σ H P F o S hg k=>by cases hg;exact k σ H F S⟩
def c7(h1:PSX X u ML M st g1 M1)(h2:PSsX X u ML M1 sts g2 M'):PSsX X u ML M (st::sts) (i4 g1 g2) M':=by
 obtain⟨t1,p1,q1⟩:=h1.out;obtain⟨t2,p2,q2⟩:=h2.out;refine .mk ⟨_,S8 p1 p2,λD ρ σ H P F o S hg k=>?_⟩;obtain⟨o1,h1,g1⟩:=bnd hg;refine q1 {D with nx:=t2 D} ρ σ H P F o1 S h1 ?_;cases o1 with
 |nx ρ'=>exact λσ' H' F' S'=>q2 D ρ' σ' H' P F' o S' g1 k
 |rt d=>cases g1;exact k
 |bk ρ'=>cases g1;exact k
 |ct ρ'=>cases g1;exact k
def g9(h1:PSX X u ML M st g M1):PSsX X u ML M [st] g M1:=by
 obtain⟨t1,p1,q1⟩:=h1.out;exact .mk ⟨_,b3y p1,q1⟩
def j9(i:Nat)(hN:X.N.Nodup)(he:PMX X M e f t M1)(hi:X.N[i]?=el x:=by rfl)(hx:Loc X.env.scope x:=by first|exact cn rfl|exact bY rfl)(hm:M1[i]?=el m:=by rfl)
  (hs:fI e (el (.Name x px)) pos.line X.env=pure false:=by rfl) (hf:X.fn x=true∨X.env.scope.names.lookup x=el .local:=by first|exact .inl rfl|exact .inr rfl):PSX X u ML M (.Assign [.Name x px] e pos) (j8 i f) (M1.set i (.own t)):=by
 obtain⟨te,pe,qe⟩:=he;refine .mk ⟨_,b0Q hN hi hx pe hs hf,λD ρ σ H P F o S hg k=>?_⟩;obtain⟨d,h1,g1⟩:=bnd hg;cases g1
 exact qe [] [] [] ρ σ H P F d _ S.pend h1 λv H' F' e S'=>k _ _ F' (S'.store rfl rfl hm).st
def b4a(i j:Nat){pt pk}(hN:X.N.Nodup)(hc:X.calm=true)(he:PMX X M e f t M1)(hp:b5x t u1 u2)(hi:X.N[i]?=el x:=by rfl)(hj:X.N[j]?=el y:=by rfl)(hx:Loc X.env.scope x:=by first|exact cn rfl|exact bY rfl)
  (hy:Loc X.env.scope y:=by first|exact cn rfl|exact bY rfl) (oF:i≠j:=by decide) (sV:M1[i]?=el m1:=by rfl) (ym:M1[j]?=el m2:=by rfl)
  (DF:X.fn x=true∨X.env.scope.names.lookup x=el .local:=by first|exact .inl rfl|exact .inr rfl) (yC:X.fn y=true∨X.env.scope.names.lookup y=el .local:=by first|exact .inl rfl|exact .inr rfl)
  (hl:(iq [.Name x px,.Name y py] X.env).length=2:=by rfl) (qW:(iq [.Name x px,.Name y py] X.env).findIdx? (·.1)=p4:=by rfl)
  (hg1:PGs X [.Name x px,.Name y py] (a5n (S9 i) (a5n (S9 j) b6c)):=by exact F9 (x0 hN hi hx DF) (F9 (x0 hN hj hy yC) a1K))
  (hs:swapsWithSole [.Tuple [.Name x px,.Name y py] pk pt] e pos.line X.env=pure false:=by rfl) (hw:swappedStores [.Tuple [.Name x px,.Name y py] pk pt] e X.env=pure p4:=by rfl)
  (h1:(iq [.Tuple [.Name x px,.Name y py] pk pt] X.env).map (·.2)=[oJ (.Tuple [.Name x px,.Name y py] pk pt) X.env]:=by rfl) :
  PSX X u ML M (.Assign [.Tuple [.Name x px,.Name y py] pk pt] e pos) (a3F i j f) ((M1.set i (.own u1)).set j (.own u2)):=by
 obtain⟨te,pe,qe⟩:=he;refine .mk ⟨_,b6e pe (a6F hc hg1 hl qW) hs hw h1,λD ρ σ H P F o S hg k=>?_⟩;obtain⟨d,h1,g1⟩:=bnd hg;obtain⟨⟨d1,d2⟩,h2,g2⟩:=bnd g1;cases g2
 have hd:d=.tuple [d1,d2]:=by
  match d,h2 with
  |.tuple [a,b],h2=>cases h2;rfl
 subst hd;refine qe [] [] [] ρ σ H P F _ _ S.pend h1 λv H' F' e S'=>?_
 obtain⟨a,v1,v2,rfl,k1,S2⟩:=S'.untup hp;refine⟨a,_,rfl,k1,rfl,v1,[v2],rfl,v2,[],rfl,rfl,?_⟩;have S3:=S2.store (i:=j) rfl rfl ym;have yo:(M1.set j (.own u2))[i]?=el m1:=by rw[gx (dN oF)];exact sV
 have S4:=(Pend.store (Mp:=[]) (ρp:=[]) (σp:=[]) (i:=i) S3 rfl rfl yo).st;rw[rC _ _ (dN oF),rC _ _ (dN oF),rC _ _ (dN oF)]at S4;exact k _ _ F' S4
def l6(he:PMX X M e f u M1):PSX X u ML M (.Return (el e) pos) (n5 f) M':=by
 obtain⟨te,pe,qe⟩:=he;refine .mk ⟨_,b0O pe,λD ρ σ H P F o S hg k=>?_⟩;obtain⟨d,h1,g1⟩:=bnd hg;cases g1
 refine qe [] [] [] ρ σ H P F d _ S.pend h1 λv H' F' e S'=>?_
 obtain⟨fp,o,nd,sub⟩:=S'.one;refine k v H' fp (o.frame (D7 sub) u λ_ _=>rfl) nd (λa ha=>?_) (S'.2.2.prot.trans i7);cases hP:P a with
 |none=>rfl
 |some o'=>
  have:=S'.2.2.prot _ _ hP;rw[T5 (sub a ha)]at this;cases this
def a4M(he:PX X M e f c)(hs:fI e p4 pos.line X.env=pure false:=by rfl):PSX X u ML M (.Expr e pos) (sEx f) M:=by
 obtain⟨te,pe,qe⟩:=he.out;refine .mk ⟨_,Z7 pe hs,λD ρ σ H P F o S hg k=>?_⟩;obtain⟨d,h1,g1⟩:=bnd hg;cases g1
 exact qe ρ σ H P F d _ S.toE h1 λv H' e _=>k σ H' F (S.grow e)
def z9(hc:PTX X M c0 fc)(ha:PSsX X u ML M body g1 M')(hb:PSsX X u ML M A_ g2 M'):PSX X u ML M (.If c0 body A_ pos) (sIf fc g1 g2) M':=by
 obtain⟨tc,pc,qc⟩:=hc.out;obtain⟨ta,pa,qa⟩:=ha.out;obtain⟨tb,pb,qb⟩:=hb.out;refine .mk ⟨_,b5p pc pa pb,λD ρ σ H P F o S hg k=>?_⟩;obtain⟨b,h1,g1⟩:=bnd hg;refine qc ρ σ H P F b _ S.toE h1 λH1 e1=>?_
 cases b with
 |true=>exact a5s (qa D ρ σ H1 P F o (S.grow e1) g1 k)
 |false=>exact a5r (qb D ρ σ H1 P F o (S.grow e1) g1 k)
def b6G:PSX X u ML ML (.Continue pos) b1u M':=.mk ⟨_,a5m,λD ρ σ H P F o S hg k=>by cases hg;exact k σ H F S⟩
def b5y:PSX X u ML M st sNo M':=.mk ⟨_,b0P,λD ρ σ H P F o S hg k=>by cases hg⟩
def a9s(K:ag)(M MB:List Md)(g:TG)(set:List D→D→Option (List D))(m:D→Prop):Prop:=
 ∀(ρ:List D) (σ:L2.St) (H P:Hp) (F:List au) (x:V) (d:D) (ρ':List D) (Q:L2.St→Hp→Prop),StR K M ρ σ H P F→Den K (cut H F) x d→m d→set ρ d=el ρ'→(∀σ' F',StR K MB ρ' σ' H P F'→Q σ' H)→g x σ H Q
def mI(d:D):Prop:=imm d=true
def mF(_:D):Prop:=True
def b6H(hm:M[i]?=el m:=by rfl):a9s K M (M.set i (.own .f)) (S9 i) (x9 i) mF:=by
 intro ρ σ H P F x d ρ' Q S hd _ hs q;cases hs
 exact q _ _ (S.set (u:=.f) (fp:=[]) hm (Same.refl _) (by simp only[Own,cA];exact⟨trivial,hd⟩) bA λa ha=>(nomatch ha))
def E2(hm:M[i]?=el m:=by rfl):a9s K M (M.set i (.own .i)) (S9 i) (x9 i) mI:=by
 intro ρ σ H P F x d ρ' Q S hd hi hs q;cases hs
 exact q _ _ (S.set (u:=.i) (fp:=[]) hm (Same.refl _) (by simp only[Own,cA];exact⟨trivial,hi,hd⟩) bA λa ha=>(nomatch ha))
def b1v(hw:w=.f∨w=.i)(oF:i≠j:=by decide)(sV:M[i]?=el m1:=by rfl)(ym:M[j]?=el m2:=by rfl):a9s K M ((M.set i (.own w)).set j (.own w)) (b8l K 2 (a5n (S9 i) (a5n (S9 j) b6c))) (a9r i j) (λd=>w=.i→imm d=true):=by
 intro ρ σ H P F x d ρ' Q S hd hi hs q;obtain⟨⟨d1,d2⟩,h2,g2⟩:=bnd hs;cases g2
 have vy:d=.tuple [d1,d2]:=by
  match d,h2 with
  |.tuple [a,b],h2=>cases h2;rfl
 subst vy;obtain⟨a,xs,rfl,k1,k2⟩:=hd.tup_inv;obtain⟨v1,v2,rfl,k3,k4⟩:=a4H k2;refine⟨a,_,rfl,Q0 k1 i7,rfl,v1,[v2],rfl,v2,[],rfl,rfl,?_⟩;have o1:Own K H ([]++F) w v1 d1 []:=by
  rcases hw with rfl|rfl
  ·simp only[Own,cA];exact⟨trivial,k3⟩
  ·have:=hi rfl;simp only[imm,f6,av]at this;simp only[Own,cA];exact⟨trivial,this.1,k3⟩
 have o2:Own K H ([]++([]++F)) w v2 d2 []:=by
  rcases hw with rfl|rfl
  ·simp only[Own,cA];exact⟨trivial,k4⟩
  ·have:=hi rfl;simp only[imm,f6,av]at this;simp only[Own,cA];exact⟨trivial,this.2.1,k4⟩
 have S1:=S.set sV (Same.refl _) o1 bA λa ha=>(nomatch ha)
 exact q _ _ (S1.set (i:=j) (m:=m2) (by rw[gx oF];exact ym) (Same.refl _) o2 bA λa ha=>(nomatch ha))
def C4{set:List D→D→Option (List D)}{m:D→Prop}(hc:X.calm=true)(hp:nD (aV X.prog X.w) X.A X.env X.xe)(hi:PIX X M tg iter fi)(hg:PG X tg gt)(hs:a9s X.K M MB gt set m)(hm:∀ρ ds,fi ρ=el ds→∀d∈ds,m d)(hb:PSsX X u M MB body g M)
  (hf:∀x,eS iter X.env x=pure x:=by intro _;rfl):PSX X u ML M (.For tg iter body [] pos) (E1 fi set g) M:=by
 obtain⟨wi,pi,qi⟩:=hi;obtain⟨tb,pb,qb⟩:=hb.out;refine .mk ⟨_,a6I hp hc pi hg pb hf,λD ρ σ H P F o S sY k=>?_⟩;obtain⟨ds,h1,g1⟩:=bnd sY;refine qi ρ σ H P F ds _ S.toE h1 λJ xs Pr H1 e1 hw sO hx=>?_
 have S1:=S.grow e1;have qS:=hx.length;refine⟨λi n σ' H'=>n=xs.length-i∧i≤xs.length∧∃ρ' F',StR X.K M ρ' σ' H' (cut H1 F) F'∧O1 set g (ds.drop i) ρ'=el o,⟨xs.length,by simp,bI _,ρ,F,⟨S1.all,S1.lst,Same.refl _⟩,g1⟩,?_⟩;rintro i n σ' H' ⟨rfl,hi,ρ',F',S',hfl⟩;have kG:Same (cut H1 F) (cut H' F'):=S'.prot;have q:=sO H' (kG.trans i7);by_cases hW:i<xs.length
 ·refine .inr ⟨hw.go i H' q hW,λσ2 H2=>∃ρ2 F2,StR X.K M ρ2 σ2 H2 (cut H1 F) F2∧O1 set g (ds.drop (i+1)) ρ2=el o,λσ2 H2 ⟨ρ2,F2,S2,h2⟩=>⟨xs.length-(i+1),by lia,rfl,hW,ρ2,F2,S2,h2⟩,λx H2 hy=>?_⟩;obtain⟨rfl,rR⟩:=hw.yld i H' x H2 q hW hy;have mB:i<ds.length:=by lia
  have lj:ds.drop i=ds[i]::ds.drop (i+1):=fw mB;rw[lj]at hfl;obtain⟨ρ1,sN,g2⟩:=bnd (show (set ρ' ds[i]).bind _=el o from hfl);obtain⟨o1,hg1,g3⟩:=bnd g2;obtain⟨d',pL,ti⟩:=(hx.up kG).getV rR;have km:d'=ds[i]:=by rw[ak mB]at pL;exact (aK pL).symm
  subst km;refine hs ρ' σ' H2 (cut H1 F) F' x _ ρ1 _ S' ti (hm ρ ds h1 _ (cG mB)) sN λσ3 F3 S3=>qb _ ρ1 σ3 H2 (cut H1 F) F3 o1 S3 hg1 ?_
  cases o1 with
  |nx ρ2=>exact λσ4 H4 F4 S4=>⟨ρ2,F4,S4,g3⟩
  |ct ρ2=>exact λσ4 H4 F4 S4=>⟨ρ2,F4,S4,g3⟩
  |bk ρ2=>
   have:o=.nx ρ2:=(aK g3).symm;subst this;exact λσ4 H4 F4 S4=>k σ4 H4 F4 ⟨S4.all,S4.lst,S1.prot.trans S4.prot⟩
  |rt d=>
   have:o=.rt d:=(aK g3).symm;subst this;refine λv H4 fp o nd fr e=>k v H4 fp o nd (λa ha=>?_) (S1.prot.trans e)
   exact S1.prot.free (fr a ha)
 ·have e:i=xs.length:=by lia
  subst e;rw[qS,kl]at hfl;have:o=.nx ρ':=(aK hfl).symm;subst this;exact .inl ⟨hw.stop _ H' q (aD _),k σ' H' F' ⟨S'.all,S'.lst,S1.prot.trans S'.prot⟩⟩
def b1w(n:List D→Nat)(hp:nD (aV X.prog X.w) X.A X.env X.xe)(hc:PTX X M c0 fc)(hb:PSsX X u M M body g M):PSX X u ML M (.While c0 body [] pos) (sWh n fc g) M:=by
 obtain⟨tc,pc,qc⟩:=hc.out;obtain⟨tb,pb,qb⟩:=hb.out;refine .mk ⟨_,b0R hp pc pb,λD ρ σ H P F o S sY k=>?_⟩;refine⟨λn σ' H'=>∃ρ' F',StR X.K M ρ' σ' H' P F'∧whL fc g n ρ'=el o,⟨n ρ,ρ,F,S,sY⟩,?_⟩;rintro n σ' H' ⟨ρ',F',S',hw⟩;cases n with
 |zero=>cases hw
 |succ n=>
  obtain⟨b,h1,g1⟩:=bnd (show (fc ρ').bind _=el o from hw);refine qc ρ' σ' H' P F' b _ S'.toE h1 λH1 e1=>?_
  cases b with
  |true=>
   refine a5s ⟨λσ2 H2=>∃ρ2 F2,StR X.K M ρ2 σ2 H2 P F2∧whL fc g n ρ2=el o,λσ2 H2 z=>⟨n,kh _,z⟩,?_⟩;obtain⟨o1,hg1,g3⟩:=bnd (show (g ρ').bind _=el o from g1);refine qb _ ρ' σ' H1 P F' o1 (S'.grow e1) hg1 ?_;cases o1 with
   |nx ρ2=>exact λσ4 H4 F4 S4=>⟨ρ2,F4,S4,g3⟩
   |ct ρ2=>exact λσ4 H4 F4 S4=>⟨ρ2,F4,S4,g3⟩
   |bk ρ2=>
    have:o=.nx ρ2:=(aK g3).symm;subst this;exact λσ4 H4 F4 S4=>k σ4 H4 F4 S4
   |rt d=>
    have:o=.rt d:=(aK g3).symm;subst this;exact k
  |false=>
   have:o=.nx ρ':=(aK g1).symm;subst this;exact a5r (k σ' H1 F' (S'.grow e1))
end
abbrev EvP:=List D→Option (List Nat)
noncomputable def PPX(X:Cx)(M:List Md)(e:Expr)(i:Nat)(f:EvP):Prop:=
 ∃t,PE X e t∧∀(ρ:List D) (σ:L2.St) (H P:Hp) (F:List au) (p:List Nat) (Q:VK),StE X.K M ρ σ H P F→f ρ=el p→(∀v v0 H',Same H H'→σ[i]?=el (el v0)→wk H' v0 p v→Q v H')→t σ H Q
noncomputable def q9:EvP:=λ_=>el []
def a8l(u:Ty)(d:D)(p:List Nat):Option (List D):=(dAt u d p).bind λtd=>match td with
 | (.l _,.list ds)=>el ds
 | (.tp _,.tuple ds)=>el ds
 |_=>p4
section
variable {X:Cx}{u t w:Ty}{ML M M1 M':List Md}{e b pl:Expr}{f fb:EvE}{fp:EvP}{cb:Cat}{pos apos cH:ff}
def M3(i:Nat)(hN:X.N[i]?=el x:=by rfl)(hv:Vis X.env.scope x:=by first|exact cn rfl|exact bY (cn rfl)|exact bY (bY rfl))(hd:(x==("__debug__":bC))=false:=by decide)
  (iJ:(x==("__classdict__":bC))=false:=by decide) (hm:M[i]?=el (.own u):=by rfl):PPX X M (.Name x pos) i q9:=by
 refine⟨_,C0 hN hv hd iJ,λρ σ H P F p Q S hf k=>?_⟩;cases hf
 obtain⟨v,f,e,_⟩:=S.get hm;exact⟨v,e,k v v H (Same.refl _) e rfl⟩
noncomputable def D6(i:Nat)(u:Ty)(fp:EvP)(fe:EvE):EvS:=λρ=>(fp ρ).bind λp=>(a8l u (ρ.getD i .none) p).bind λds=>(fe ρ).bind λd=>if ds.length<1000000 then el (.nx (ρ.set i (a2k (ρ.getD i .none) p (.list (ds++[d]))))) else p4
noncomputable def b8C(u:Ty)(fp:EvP)(t:Ty):Prop:=∀ρ p d td,fp ρ=el p→dAt u d p=el td→td.1=.l t
def a1l:b8C (.l t) q9 t:=λρ p d td h1 h2=>by
 cases h1
 have jh:el (Ty.l t,d)=el td:=h2;cases jh
 rfl
def b4b{p:List Nat}{ds:List D}(ht:∀td,dAt u d p=el td→td.1=.l t)(hi:a8l u d p=el ds):dAt u d p=el (.l t,.list ds):=by
 obtain⟨⟨t',d'⟩,h1,h2⟩:=bnd hi;have e:t'=.l t:=ht _ h1;subst e;cases d' with
 |list es=>cases h2;exact h1
 |_=>cases h2
def T8(i:Nat)(hp:PPX X M pl i fp)(he:PMX X M e f t M1)(ht:b8C u fp t)(hm:M[i]?=el (.own u):=by rfl)(sV:M1[i]?=el (.own u):=by rfl)
  (eK:dc pl "append" X.env (cy pl X.env)=cy pl X.env:=by rfl)
  (kq:((cx cH (aw [e] X.env)).all (λx=>!x.1)&&(mV cH (jn [] X.env)).all (λx=>x.1.isSome)
   && decide ([e].length+([]:List hJ).length+(if ([]:List hJ).isEmpty then 0 else 1)<30))=true:=by rfl)
  (eJ:(apos.endLine==cH.line)=true:=by rfl) (hs:aw [e] X.env=(false,cy e X.env)::aw [] X.env:=by rfl) (gI:(cx cH (aw [] X.env)).any (·.1)=false:=by rfl)
  (oy:fI (.Call (.Attribute pl "append" apos) [e] [] cH) p4 pos.line X.env=pure false:=by rfl) :
  PSX X w ML M (.Expr (.Call (.Attribute pl "append" apos) [e] [] cH) pos) (D6 i u fp f) M1:=by
 obtain⟨tp,pp,qp⟩:=hp;obtain⟨te,pe,qe⟩:=he;refine .mk ⟨_,Z7 (b5u ke rz ro a0I pp (l5 pe p0 hs) eK kq eJ hs gI) oy,λD ρ σ H P F o S hg k=>?_⟩;obtain⟨p,h1,g1⟩:=bnd hg;obtain⟨ds,h2,g2⟩:=bnd g1;obtain⟨d,h3,g3⟩:=bnd g2;by_cases hz:ds.length<1000000
 ·rw[aB hz]at g3;cases g3
  refine qp ρ σ H P F p _ S.toE h1 λv v0 H1 e1 zV hw=>?_
  have S1:=S.grow e1;obtain⟨v',f',e',o,_⟩:=S1.toE.get hm;rw[zV]at e';cases e'
  have AB:=b4b (λtd z=>ht ρ p _ td h1 z) h2;obtain⟨b,xs,fs,pre,post,rfl,r2,_,_,_⟩:=o.path p AB hw;refine⟨.inl ⟨rfl,xs,SqL.of r2⟩,qe [] [] [] ρ σ H1 P F d _ S1.pend h3 λv1 H2 F2 e2 S2=>?_⟩;obtain⟨b',lJ,e',BR,hl,S3,_⟩:=S2.put sV zV AB (b5w e2 hw);cases e'
  refine⟨b,lJ,v1,rfl,rfl,BR,?_,k σ _ F2 S3⟩;rw[hl];exact fE hz (by rw[cQ];decide)
 ·rw[aI hz]at g3;cases g3
def Q2(i:Nat)(hN:X.N.Nodup)(hc:X.calm=true)
  (hi:PIX X M tg iter fi) (C:U7 scope X.env.kindOf ys js X.N=true) (hg:∀cl Cl s H fp,PG (L5 X (tn++ys) scope cl Cl s H fp) tg g) (yz:TgR X.K g n pt) (Dj:mm=.i∨mm=.f)
  (pE:mm=.i→∀ρ ds,fi ρ=el ds→∀d∈ds,∀bs,pt d=el bs→f6 bs=true) (uY:tn.length=n)
  (ht:∀cl Cl s H fp,PTs (L5 X (tn++ys) scope cl Cl s H fp) ifs (spT X.K (T7 (.own mm) n M js) ft)) (he:∀cl Cl s H fp,PX (L5 X (tn++ys) scope cl Cl s H fp) (T7 (.own mm) n M js) elt fe (.new t))
  (rR:X.N[i]?=el x:=by rfl) (hx:Loc X.env.scope x:=by first|exact cn rfl|exact bY rfl) (hm:M[i]?=el m:=by rfl)
  (oy:fI (.ListComp elt [⟨tg,iter,ifs,0⟩] scope cps) (el (.Name x px)) pos.line X.env=pure true:=by rfl) (hs:∀x,eS iter X.env x=pure x:=by intro _;rfl)
  (hf:X.fn x=true∨X.env.scope.names.lookup x=el .local:=by first|exact .inl rfl|exact .inr rfl) :
  PSX X w ML M (.Assign [.Name x px] (.ListComp elt [⟨tg,iter,ifs,0⟩] scope cps) pos) (j8 i (l0 fi js pt ft fe)) (M.set i (.own (.l t))):=by
 obtain⟨wi,pi,qi⟩:=hi;refine .mk ⟨_,a5t (te:=spE X.K (T7 (.own mm) n M js) fe (.new t)) hc hN rR hx pi C hg ht he oy hs hf,λD ρ σ H P F o S mR k=>?_⟩;obtain⟨d,h1,g1⟩:=bnd mR;cases g1
 exact a3E qi yz Dj pE uY S.toE h1 λv H' e ⟨fp,o,nd,fr⟩=>k _ _ _ (S.set hm e o nd fr)
end
def argsOk:List Ty→List D→Bool
 |[],[]=>true
 |.i::us,d::ds=>imm d&&argsOk us ds
 |.f::us,_::ds=>argsOk us ds
 |_,_=>false
noncomputable def fnD(us:List Ty)(n:Nat)(g:EvS):List D→Option D:=λds=>if argsOk us ds then (g (ds++aO n .none)).bind λo=>match o with
 |.rt d=>el d
 |_=>p4
 else p4
theorem Q3:∀{us:List Ty} {vs:List V} {ds:List D},argsOk us ds=true→DenAll K H vs ds→∀n,StAll K H [] (us.map .own++aO n .dead) (ds++aO n .none) (vs.map el++aO n p4) []
 |[],vs,[],_,hd,n=>by
  rw[hd.nil_inv]
  induction n with
  |zero=>exact J8
  |succ n ih=>exact k7 (K:=K) (H:=H) (F:=[]) (m:=.dead) (f:=[]) rfl ih
 |.i::us,vs,d::ds,h,hd,n=>by
  have h':imm d=true∧argsOk us ds=true:=by simpa[argsOk]using h
  obtain⟨v,r,rfl,h1,h2⟩:=hd.cons_inv;refine k7 (K:=K) (H:=H) (F:=[]) (m:=.own .i) (f:=[]) ⟨v,rfl,?_⟩ (Q3 h'.2 h2 n);simp only[Own,J0];exact⟨trivial,h'.1,h1⟩
 |.f::us,vs,d::ds,h,hd,n=>by
  have h':argsOk us ds=true:=by simpa[argsOk]using h
  obtain⟨v,r,rfl,h1,h2⟩:=hd.cons_inv;refine k7 (K:=K) (H:=H) (F:=[]) (m:=.own .f) (f:=[]) ⟨v,rfl,?_⟩ (Q3 h' h2 n);simp only[Own,J0];exact⟨trivial,h1⟩
 |.l _::us,vs,d::ds,h,_,_=>by simp[argsOk]at h
 |.tp _::us,vs,d::ds,h,_,_=>by simp[argsOk]at h
 |.d _ _::us,vs,d::ds,h,_,_=>by simp[argsOk]at h
 |[],vs,d::ds,h,_,_=>by simp[argsOk]at h
 |.i::us,vs,[],h,_,_=>by simp[argsOk]at h
 |.f::us,vs,[],h,_,_=>by simp[argsOk]at h
 |.l _::us,vs,[],h,_,_=>by simp[argsOk]at h
 |.tp _::us,vs,[],h,_,_=>by simp[argsOk]at h
 |.d _ _::us,vs,[],h,_,_=>by simp[argsOk]at h
open PyProof.Rows in
def b4c{P:br}{w:bL}{K:ag}{mg:bC→Option ah}{base:bN}{x:bC}{st:gM}{f:au}{fd:dC}{N ps:List bC}{k n:Nat}{us:List Ty}{u:Ty}{g:EvS}{M':List Md}(F:Fun K x x st f fd)(S:FnScope N ps (i8 st))(mO:us.length=ps.length)(hn:N.length=ps.length+n)
  (hb:∀(gd:ah) (A:bD) (outer:List n_) (s:ai) (H:Hp) (E:XK),Room k (A.deeper (iY x (i8 st) s.heap.objs.size f gd))→PSsX (a0a CX0 P w K mg base N x (i8 st) f gd A outer s H E).nox u [] (us.map .own++aO n .dead) (v4 st) g M') :
  FnOk P w K mg base CX0 (k+1) f fd ps (spD K ps.length (fnD us n g) u):=by
 refine F.ok S (λvs H Q E h=>?_) (λgd A outer s H vs Q E hr h=>?_)
 ·obtain⟨ds,d,hl,_⟩:=h;exact hl
 obtain⟨ds,d,hl,hd,hm,q⟩:=h;obtain⟨t,p,r⟩:=(hb gd A outer s H E hr).out;refine⟨t,p,?_⟩;unfold fnD at hm;by_cases ha:argsOk us ds=true
 ·rw[aB ha]at hm;obtain⟨o,h1,h2⟩:=bnd hm;cases o with
  |rt d'=>
   have jh:el d'=el d:=h2;cases jh
   have e:L2.start N vs=vs.map el++aO n p4:=by
    unfold L2.start;rw[show N.length-vs.length=n by lia]
   rw[e];refine r _ (ds++aO n jz) _ H H [] (.rt d) ⟨⟨[],Q3 ha hd n,bA,λa ha=>(nomatch ha)⟩,λa ha=>(nomatch ha),by rw[J0];exact Same.refl H⟩ h1 ?_;exact λv H' fp o nd fr e=>q v H' fp e o nd fr
  |_=>cases h2
 ·rw[aI ha]at hm;cases hm
end VS
namespace VS
open PySem PySem.Spec L2 PyProof.Rows
def E3(K:ag):List (bC×au):=K0.filterMap λx=>(B0 K x).map λp=>(x,p)
def a0O:List au→Bool
 |[]=>true
 |a::r=>!r.contains a&&a0O r
def a2l(K:ag)(names:List bC):Bool:=a0O ((E3 K).map (·.2))&&(E3 K).all λt=>(K.lookup t.2).isNone&&names.contains t.1
theorem a2m:∀{l:List (bC×au)} {x y:bC} {p:au},a0O (l.map (·.2))=true→(x,p)∈l→(y,p)∈l→x=y
 |[],_,_,_,_,h,_=>(nomatch h)
 | (z,q)::l,x,y,p,h,h1,h2=>by
  have h':((l.map (·.2)).contains q=false)∧a0O (l.map (·.2))=true:=by simpa[a0O]using h
  have zJ:∀w,(w,q)∉l:=λw hw=>by
   have:(l.map (·.2)).contains q=true:=by
    rw[uv];exact aY.mpr ⟨(w,q),hw,rfl⟩
   rw[h'.1]at this;cases this
  rcases az.mp h1 with e1|e1
  ·rcases az.mp h2 with e2|e2
   ·cases e1;cases e2;rfl
   ·cases e1;exact absurd e2 (zJ y)
  ·rcases az.mp h2 with e2|e2
   ·cases e2;exact absurd e1 (zJ x)
   ·exact a2m h'.2 e1 e2
def a1m{K:ag}{x:bC}{p:au}(hx:x∈K0)(h:B0 K x=el p):(x,p)∈E3 K:=
 ef.mpr ⟨x,hx,by rw[h];rfl⟩
def C5{K:ag}{x:bC}{p:au}(h:(x,p)∈E3 K):x∈K0∧B0 K x=el p:=by
 obtain⟨y,hy,e⟩:=ef.mp h;cases q:B0 K y with
 |none=>rw[q]at e;cases e
 |some r=>
  rw[q]at e;have e':(y,r)=(x,p):=aK e;cases e'
  exact⟨hy,q⟩
def a6X{K:ag}(e:a4o K cd=el p)(X:K.In h):∃c,cd=.ref c∧gq h c p:=by
 unfold a4o at e
 split at e
 ·rename_i c
  split at e
  ·rename_i n dd vs sl hc
   split at e
   ·rename_i hn
    split at e
    ·rename_i P' file tf flags tg t_ text tt AU Ew h7 h9 Ex
     split at e
     ·rename_i gj
      cases e
      have en:n="code":=by simpa using hn
      subst en;refine⟨c,rfl,_,vs,file,tf,flags,tg,t_,text,tt,X _ _ hc,rfl,rfl,AU,?_,?_,?_,?_,?_,bne_iff_ne.mp gj⟩
      ·simp[dO,AU]
      ·simp[dO,Ew]
      ·simp[dO,h7]
      ·simp[dO,h9]
      ·simp[dO,Ex]
     ·cases e
    ·cases e
   ·cases e
  ·cases e
 ·cases e
def a3G{K:ag}{h:bN}(e:B0 K x=el p)(X:K.In h)(G:h.Ns bP mg) :
  ∃f oc od fd sl c,mg x=el (.ref f)∧K.lookup f=el ⟨oc,od,.func fd,sl⟩∧fd.code=.ref c∧gq h c p:=by
 unfold B0 at e
 split at e
 ·rename_i f hf
  split at e
  ·rename_i oc od fd sl hl
   obtain⟨c,hc,hd⟩:=a6X e X;exact⟨f,oc,od,fd,sl,c,jQ X G hf,hl,hc,hd⟩
  ·cases e
 ·cases e
def Tab0(K:ag)(h:bN):Prop:=∀x∈K0,∀p,B0 K x=el p→isCodeTable h p∧h.get? p=el {cls:=.none,data:=.fields #[]}
def b4d{q:br}{loose:List bC}{xF:ExcName→Option ah}{mg mb:bC→Option ah}{h:bN}{K:ag}(T:Top q loose xF mg mb h)(X:K.In h)(ok:a2l K ((recsOf q).map (·.name))=true):Tab0 K h:=λx hx p e=>by
 have hm:=a1m hx e;have hn:((K.lookup p).isNone&&((recsOf q).map (·.name)).contains x)=true:=by
  unfold a2l at ok;rw[av]at ok;exact bj.mp ok.2 _ hm
 rw[av,uv]at hn;obtain⟨d,hd,rfl⟩:=aY.mp hn.2;obtain⟨f,oc,od,fd,sl,c,h1,h2,h3,h4⟩:=a3G e X T.g;obtain⟨a,o,AX,c',P',z1,z2,z3,z4,z5,z6⟩:=T.tab d hd;rw[h1]at z1;cases z1
 rw[X _ _ h2]at z2;cases z2
 have Bz:Data.func fd=Data.func AX:=z3;cases Bz
 rw[h3]at z4;cases z4
 obtain⟨ob,vs,file,tf,flags,tg,t_,text,tt,y1,y2,y3,y4,_⟩:=h4;obtain⟨⟨Fy,Fo,w1,w2,w3,w4⟩,w5⟩:=id z6;rw[y1]at w1;cases w1
 rw[y3]at w3;cases w3
 rw[y4]at w4;cases w4
 exact⟨z6.isCodeTable,w5⟩
def L6(K:ag)(H:Hp):Hp:=λb=>match (E3 K).find? λt=>t.2==b with
 |some t=>el (.tbl #[.str (S7 t.1) 0])
 |none=>H b
def a9t{K:ag}{s₁:ai}{vs:List ah} 
  (KX:K.In s₁.heap) (qm:s₁.heap.Ns bP mg) (hb:s₁.heap.Ns ka mb) (DZ:∀x:bC,x≠"__name__"→mb x=gf x) (yq:s₁.heap.NoLimit) (hg:s₁.gens=#[])
  (DX:∃bm ob,mg "__builtins__"=el (.ref bm)∧bm≠ka∧s₁.heap.get? bm=el ob∧ob.cls=.type "module"∧ob.dict=el ka∧ob.data=.plain)
  (qV:Tab0 K s₁.heap) (oB:a2l K names=true)
  (ha:s₁.heap.get? a=el {cls:=.type "list",data:=.seq vs.toArray}) (hi:IntsAre vs ns) (hl:ns.length≤aS) (hr:Room k ny)
  (F:∀base:bN,K.In base→base.Ns bP mg→FnOk P w K mg base CX k fa fd [x] sp) (mT:∀(s:ai) (u:ah),nF s fd ⟨[u],[]⟩ [(x,u)])
  (pB:∀H:Hp,SqX K H a (ns.map V.int)→sp [.ref a] H (λv _=>v=.bl true) λ_ _ _=>False)
  (yY:∀H e s',CX [] H s₁ (λ_ _ _=>False) e s'→False) :
  gF (aV P w) ny (.call (.ref fa) ⟨[.ref a],[]⟩) (λr s'=>r=.ok (.ret (.bool true))∧OldK s₁.heap s'.heap∧s'.os=s₁.os∧og s'.gens) s₁:=by
 have rv:=vals_ints hi;have xH:=hi.length;have Cf:a0O ((E3 K).map (·.2))=true:=by unfold a2l at oB;rw[av]at oB;exact oB.1
 have Ce:∀t∈E3 K,K.lookup t.2=p4:=λt ht=>by
  unfold a2l at oB;rw[av]at oB;have:=bj.mp oB.2 t ht;rw[av]at this;exact Option.isNone_iff_eq_none.mp this.1
 have core:∀H0:Hp,SqX K H0 a (ns.map V.int)→HOk P w H0 s₁.heap→(∀b u,H0 b=el u→b=a∧∃o xs,u=.frz o (.lst xs))→(H0 a≠p4→K.lookup a=p4)→
   gF (aV P w) ny (.call (.ref fa) ⟨[.ref a],[]⟩) (λr s'=>r=.ok (.ret (.bool true))∧OldK s₁.heap s'.heap∧s'.os=s₁.os∧og s'.gens) s₁:=by
  intro H0 hS hok hA hK;have kr:∀b u,L6 K H0 b=el u→(∃x,(x,b)∈E3 K∧u=.tbl #[.str (S7 x) 0])∨((∀x,(x,b)∉E3 K)∧H0 b=el u):=λb u e=>by
   unfold L6 at e
   split at e
   ·rename_i t ht
    cases e
    have h1:=qH ht;have h2:t.2=b:=ku.mp (Gk (p:=λt:bC×au=>t.2==b) ht);refine .inl ⟨t.1,?_,rfl⟩;rw[←h2];exact h1
   ·rename_i ht
    refine .inr ⟨λx hx=>?_,e⟩;have:=fT.mp ht _ hx;simp at this
  have tabAt:∀x p,(x,p)∈E3 K→L6 K H0 p=el (.tbl #[.str (S7 x) 0]):=λx p hm=>by
   cases e:L6 K H0 p with
   |none=>
    unfold L6 at e
    split at e
    ·cases e
    ·rename_i ht
     have:=fT.mp ht _ hm;simp at this
   |some u=>
    rcases kr p u e with⟨y,hy,rfl⟩|⟨hn,_⟩
    ·rw[a2m Cf hm hy]
    ·exact absurd hm (hn x)
  have nA:∀x,(x,a)∉E3 K:=λx hx=>by
   have:=(qV x (C5 hx).1 a (C5 hx).2).2;rw[ha]at this;cases this
  have Bm:L6 K H0 a=H0 a:=by
   cases e:L6 K H0 a with
   |none=>
    unfold L6 at e
    split at e
    ·cases e
    ·exact e.symm
   |some u=>
    rcases kr a u e with⟨y,hy,_⟩|⟨_,h⟩
    ·exact absurd hy (nA y)
    ·exact h.symm
  have kH:SqX K (L6 K H0) a (ns.map V.int):=by
   rcases hS with (h|⟨o,h⟩)|h
   ·exact .inl (.inl (Bm.trans h))
   ·exact .inl (.inr ⟨o,Bm.trans h⟩)
   ·exact .inr h
  have pF:HOk P w (L6 K H0) s₁.heap:=λb u e=>by
   rcases kr b u e with⟨x,hx,rfl⟩|⟨hn,h⟩
   ·obtain⟨h1,h2⟩:=C5 hx;exact⟨#[],(qV x h1 b h2).2,trivial,λpos cv z=>by cases z⟩
   ·obtain⟨rfl,o,xs,rfl⟩:=hA b u h;obtain⟨h1,h2⟩:=hok _ _ h;obtain⟨z,cJ,n,r,e'⟩:=h2;exact⟨h1,z,cJ,n,r,e'⟩
  have mq:∀{b:au} {o:fD},s₁.heap.get? b=el o→L6 K H0 b=p4→(a4n s₁.heap (L6 K H0)).get? b=el o:=λe n=>b0L e n
  have zH:∀{b:au} {o:fD},s₁.heap.get? b=el o→(∀ps,o.data≠.fields ps)→(∀cJ n,o.data≠.seq cJ n)→L6 K H0 b=p4:=λ{b o} e d1 d2=>by
   cases q:L6 K H0 b with
   |none=>rfl
   |some u=>
    rcases kr b u q with⟨x,hx,rfl⟩|⟨hn,h⟩
    ·have:=(qV x (C5 hx).1 b (C5 hx).2).2;rw[e]at this;cases this
     exact absurd rfl (d1 _)
    ·obtain⟨rfl,_⟩:=hA b u h;rw[ha]at e;cases e
     exact absurd rfl (d2 _ _)
  have wq:∀{b:au} {m:bC→Option ah},s₁.heap.Ns b m→(a4n s₁.heap (L6 K H0)).Ns b m:=λ{b m} ⟨o,es,ep,e,d,r⟩=>⟨o,es,ep,mq e (zH e (λps z=>by rw[d]at z;cases z) λcJ n z=>by rw[d]at z;cases z),d,r⟩
  have AN:K.In (a4n s₁.heap (L6 K H0)):=λb o e=>mq (KX b o e) (by
   cases q:L6 K H0 b with
   |none=>rfl
   |some u=>
    rcases kr b u q with⟨x,hx,rfl⟩|⟨hn,h⟩
    ·rw[Ce _ hx]at e;cases e
    ·obtain⟨rfl,_⟩:=hA b u h;rw[hK (by rw[h];simp)]at e;cases e)
  have hM:Mod K mg (a4n s₁.heap (L6 K H0)):=⟨AN,wq qm,⟨mb,wq hb,DZ⟩,let⟨mc,h1,h2⟩:=yq;⟨mc,wq h1,h2⟩,
   let⟨bm,ob,b1,b2,b3,b4,b5,b6⟩:=DX;⟨bm,ob,b1,b2,mq b3 (zH b3 (λps z=>by rw[b6]at z;cases z) λcJ n z=>by rw[b6]at z;cases z),b4,b5,b6⟩⟩
  have e0:Env0 P w K mg (a4n s₁.heap (L6 K H0)) ny [] s₁ (L6 K H0):=⟨rfl,hM,λb o e=>b3s e,Nat.le_of_eq (a8X _ _),trivial,λb hb=>absurd (show b∈([]:List au) from hb) (by simp),pF,.of_eq hg,
   λx hx p e=>⟨_,0,tabAt x p (a1m hx e),rfl⟩⟩
  refine fK ((F _ AN (wq qm)).run ny [] s₁ (L6 K H0) ⟨[.ref a],[]⟩ [.ref a] [.ref a] _ _ hr e0 (mT s₁ (.ref a)) (.cons rfl .nil) (pB _ kH)) λr s' h=>?_
  cases r with
  |error e=>exact (yY _ e s' h).elim
  |ok fl=>
   cases fl with
   |next=>exact cK h
   |brk=>exact cK h
   |cont=>exact cK h
   |ret u=>
    obtain⟨v,H',os,bare,un,oA,r',q⟩:=h;have q':v=.bl true:=q;subst q';obtain rfl:u=ji true:=r';refine⟨rfl,⟨λb o e=>?_,λb o e=>un.there b o e (by simp)⟩,os,bare⟩;cases q:L6 K H0 b with
    |none=>exact .inl (un.keep b o e q (by intro z;exact absurd (show b∈([]:List au) from z) (by simp)) (by simp))
    |some u=>
     rcases kr b u q with⟨x,hx,rfl⟩|⟨hn,h⟩
     ·obtain⟨t1,t2⟩:=qV x (C5 hx).1 b (C5 hx).2;rw[e]at t2;cases t2
      obtain⟨more,e2⟩:=un.tbls b _ q;obtain⟨ps,e3,_⟩:=(show a5k H' s'.heap b _ from oA b _ e2);exact .inr (.inl ⟨t1,rfl,#[],ps,rfl,by simpa using e3⟩)
     ·obtain⟨rfl,ob,xs,rfl⟩:=hA b u h;have z2:=un.frzs b ob _ q;obtain⟨e1,_⟩:=pF b _ q;obtain⟨e2,_⟩:=oA b _ z2;rw[e]at e1;cases e1;exact .inl e2
 cases hk:K.lookup a with
 |some o=>
  have e:=KX a o hk;rw[ha]at e;cases e
  refine core (λ_=>p4) (.inr ⟨vs,_,hk,by rw[xH];exact hl,rv⟩) (λb u z=>by have z':(p4:Option HO)=el u:=z;cases z') (λb u z=>by have z':(p4:Option HO)=el u:=z;cases z') λz=>absurd rfl z
 |none=>
  refine core (λb=>if b=a then el (.frz {cls:=.type "list",data:=.seq vs.toArray} (.lst (ns.map V.int))) else p4) (.inl (.inr ⟨{cls:=.type "list",data:=.seq vs.toArray},aB rfl⟩)) (λb u z=>?_) (λb u z=>?_) λ_=>hk
  ·by_cases hb:b=a
   ·have z':=(aB hb).symm.trans z;cases z'
    subst hb;exact⟨ha,by rw[ar];exact hl,vs,_,rv,ha⟩
   ·have z':=(aI hb).symm.trans z;cases z'
  ·by_cases hb:b=a
   ·have z':=(aB hb).symm.trans z;cases z'
    exact⟨hb,_,_,rfl⟩
   ·have z':=(aI hb).symm.trans z;cases z'
def b1x{l:oM}{XP:(bC→Option ah)→bN→Prop}{YP:bL→bN→Prop}{d:DefRec}{K:Params→ag}{CX:bL→CXT}{sp:bL→Sp} 
  (hn:l.most=el n) (Dh:n≤aS) (vx:d.params.defaults=[]) (hr:Room k ny)
  (hY:∀(w:bL) (h:bN),YP w h→(K w.params).In h) (hT:∀w:bL,a2l (K w.params) ((recsOf q).map (·.name))=true)
  (F:∀(w:bL) (mg:bC→Option ah) (fa:au) (h:bN),(K w.params).In h→h.Ns bP mg→mg d.name=el (.ref fa)→
   ∃fd:dC,(∀(s:ai) (u:ah),nF s fd ⟨[u],[]⟩ [(x,u)])∧
    ∀base:bN,(K w.params).In base→base.Ns bP mg→FnOk l.prog w (K w.params) mg base (CX w) k fa fd [x] (sp w))
  (pB:∀(w:bL) (H:Hp) (a:au) (ns:List Int),ns.length≤n→SqX (K w.params) H a (ns.map V.int)→sp w [.ref a] H (λv _=>v=.bl true) λ_ _ _=>False)
  (yY:∀(w:bL) (H:Hp) (s:ai) (e:ah) (s':ai),CX w [] H s (λ_ _ _=>False) e s'→False) :
  PySem.W.WalkO q loose XP YP l.row.toRowW d [] (λf vs=>zi f vs):=by
 refine Att.attach_call hn vx λw s₀ s₁ mg mb fa o pm cd doc a vs ns G Y ho hd iJ vf sR hints hlen hg=>?_
 have KX:=hY w _ Y;obtain⟨fd,hb,hF⟩:=F w mg fa _ KX G.T.g vf;exact a9t KX G.T.g G.T.b G.T.builtins G.T.nolimit hg G.T.bmain (b4d G.T KX (hT w)) (hT w) sR hints (cw hlen Dh) hr hF hb (λH hS=>pB w H a ns hlen hS) λH e s'=>yY w H s₁ e s'
def a9u{l:oM}{XP:(bC→Option ah)→bN→Prop}{YP:bL→bN→Prop}{d:DefRec}{K:Params→ag}{m:List ba→Option ba}(hn:l.most=el 63)(vx:d.params.defaults=[])(hr:Room k ny)
  (hY:∀(w:bL) (h:bN),YP w h→(K w.params).In h) (hT:∀w:bL,a2l (K w.params) ((recsOf q).map (·.name))=true)
  (F:∀(w:bL) (mg:bC→Option ah) (fa:au) (h:bN),(K w.params).In h→h.Ns bP mg→mg d.name=el (.ref fa)→
   ∃fd:dC,(∀(s:ai) (u:ah),nF s fd ⟨[u],[]⟩ [(x,u)])∧
    ∀base:bN,(K w.params).In base→base.Ns bP mg→FnOk l.prog w (K w.params) mg base CX0 k fa fd [x] (spD (K w.params) 1 m .i))
  (hm:∀ns:List Int,ns.length≤63→m [.list (ns.map .int)]=el (.bool true)) :
  PySem.W.WalkO q loose XP YP l.row.toRowW d [] (λf vs=>zi f vs):=
 b1x (n:=63) (k:=k) (x:=x) (CX:=λ_=>CX0) (sp:=λw=>spD (K w.params) 1 m .i) hn (by decide) vx hr hY hT F
  (λw H a ns hl hS=>⟨_,_,rfl,denAll_cons (den_list hS (DenAll.ints ns)) denAll_nil,hm ns hl,λv H' fp _ o _ _=>(T6 o).2.2.bool_inv⟩) λ_ _ _ _ _ z=>z
end VS
namespace VS
open PySem PySem.Spec L2
def C6:∀(ρ ds:List D),g8 ρ=el ds→ds.length=0:=λ_ _ h=>by cases h;rfl
def j7(hr:∀(ρ ds:List D),r ρ=el ds→ds.length=n):∀(ρ ds:List D),b8 f r ρ=el ds→ds.length=n+1:=λ_ _ h=>a9k hr h
def a5F:∀(ρ ds:List D),iI fi ρ=el ds→∀d∈ds,mI d:=λρ ds h d hd=>by
 have:=a2j rfl ρ ds h d hd [d] rfl;show imm d=true;simpa only [f6,iM]using this
def a6Y:∀(ρ ds:List D),iR fa ρ=el ds→∀d∈ds,mI d:=λρ ds h d hd=>by
 have:=b1t rfl ρ ds h d hd [d] rfl;show imm d=true;simpa only [f6,iM]using this
end VS
namespace VS
open PySem L2
section
variable {a b c:EvE}{ρ ρ':List D}{d x y:D}
def l1(g:D→Option D):Option D→Option D
 |some x=>g x
 |none=>p4
def l2(g:D→D→Option D):Option D→Option D→Option D
 |some x,el y=>g x y
 |_,_=>p4
def lc(m:List D→Option D):Option (List D)→Option D
 |some xs=>m xs
 |none=>p4
def b5z:Option D→Option (List D)→Option (List D)
 |some x,el xs=>el (x::xs)
 |_,_=>p4
def lB:Option D→Option Bool
 |some d=>asB d
 |none=>p4
def lT:Option D→Option Bool
 |some d=>tr d
 |none=>p4
def b8D:Option Bool→Option Bool
 |some b=>el !b
 |none=>p4
def b6I:Option Bool→EvT→List D→Option Bool
 |some true,b,ρ=>b ρ
 |some false,_,_=>el false
 |none,_,_=>p4
def orT:Option Bool→EvT→List D→Option Bool
 |some true,_,_=>el true
 |some false,b,ρ=>b ρ
 |none,_,_=>p4
def b6J:Option D→EvE→List D→Option D
 |some (.bool true),b,ρ=>b ρ
 |some (.bool false),_,_=>el (.bool false)
 |_,_,_=>p4
def orE:Option D→EvE→List D→Option D
 |some (.bool true),_,_=>el (.bool true)
 |some (.bool false),b,ρ=>b ρ
 |_,_,_=>p4
def b8E:Option D→Option D
 |some (.bool b)=>el (.bool !b)
 |_=>p4
def b4e:Option Bool→EvE→EvE→List D→Option D
 |some true,a,_,ρ=>a ρ
 |some false,_,b,ρ=>b ρ
 |none,_,_,_=>p4
def b6K:Option Bool→EvS→EvS→List D→Option Out
 |some true,a,_,ρ=>a ρ
 |some false,_,b,ρ=>b ρ
 |none,_,_,_=>p4
def thn:Option Out→EvS→Option Out
 |some (.nx ρ),b=>b ρ
 |some (.rt d),_=>el (.rt d)
 |some (.bk ρ),_=>el (.bk ρ)
 |some (.ct ρ),_=>el (.ct ρ)
 |none,_=>p4
def b8F(i:Nat):Option D→List D→Option Out
 |some d,ρ=>el (.nx (ρ.set i d))
 |none,_=>p4
def retS:Option D→Option Out
 |some d=>el (.rt d)
 |none=>p4
def exS:Option D→List D→Option Out
 |some _,ρ=>el (.nx ρ)
 |none,_=>p4
def b1y(i j:Nat):Option D→List D→Option Out
 |some (.tuple [x,y]),ρ=>el (.nx ((ρ.set i x).set j y))
 |_,_=>p4
noncomputable def b8G(set:List D→D→Option (List D))(g:EvS):Option (List D)→List D→Option Out
 |some ds,ρ=>O1 set g ds ρ
 |none,_=>p4
def a2n:Option Out→Option D
 |some (.rt d)=>el d
 |_=>p4
def listE:Option (List D)→Option D
 |some ds=>el (.list ds)
 |none=>p4
def b8H:Option (List D)→Option D
 |some ds=>el (.tuple ds)
 |none=>p4
def c0h:l1 g (el x)=g x:=rfl
def c0i:l2 g (el x) (el y)=g x y:=rfl
def c0j:lc m (el xs)=m xs:=rfl
def b4f:b5z (el x) (el xs)=el (x::xs):=rfl
def c0k:lB (el (.bool k))=el k:=rfl
def c0l:lT (el d)=tr d:=rfl
def b6L:b8D (el k)=el !k:=rfl
def b6M:b6I (el true) t ρ=t ρ:=rfl
def b6N:b6I (el false) t ρ=el false:=rfl
def b8I:orT (el true) t ρ=el true:=rfl
def b8J:orT (el false) t ρ=t ρ:=rfl
def b6O:b6J (el (.bool true)) b ρ=b ρ:=rfl
def b6P:b6J (el (.bool false)) b ρ=el (.bool false):=rfl
def b8K:orE (el (.bool true)) b ρ=el (.bool true):=rfl
def b8L:orE (el (.bool false)) b ρ=b ρ:=rfl
def b6Q:b8E (el (.bool k))=el (.bool !k):=rfl
def b6R:b4e (el true) a b ρ=a ρ:=rfl
def b6S:b4e (el false) a b ρ=b ρ:=rfl
def b6T:b6K (el true) s t ρ=s ρ:=rfl
def b6U:b6K (el false) s t ρ=t ρ:=rfl
def B1:thn (el (.nx ρ)) s=s ρ:=rfl
def b6V:thn (el (.rt d)) s=el (.rt d):=rfl
def b6W:thn (el (.bk ρ)) s=el (.bk ρ):=rfl
def b6X:thn (el (.ct ρ)) s=el (.ct ρ):=rfl
def b1z:b8F i (el d) ρ=el (.nx (ρ.set i d)):=rfl
def b6Y:retS (el d)=el (.rt d):=rfl
def b8M:exS (el d) ρ=el (.nx ρ):=rfl
def b4g:b1y i j (el (.tuple [x,y])) ρ=el (.nx ((ρ.set i x).set j y)):=rfl
def b6Z{set:List D→D→Option (List D)}:b8G set g (el ds) ρ=O1 set g ds ρ:=rfl
def b7a:a2n (el (.rt d))=el d:=rfl
def a8m:listE (el ds)=el (.list ds):=rfl
def b7b:b8H (el ds)=el (.tuple ds):=rfl
def v_var:b7 i ρ=el (ρ.getD i .none):=rfl
def v_c:eC d ρ=el d:=rfl
def v_1:e1 g a ρ=l1 g (a ρ):=by unfold e1;cases a ρ<;>rfl
def v_2:e2 g a b ρ=l2 g (a ρ) (b ρ):=by unfold e2;cases a ρ<;>cases b ρ<;>rfl
def c0m:eCl m f ρ=lc m (f ρ):=by unfold eCl;cases f ρ<;>rfl
def b7c:b8 a r ρ=b5z (a ρ) (r ρ):=by unfold b8;cases a ρ<;>cases r ρ<;>rfl
def b5A:g8 ρ=el []:=rfl
def c0n:tB a ρ=lB (a ρ):=by unfold tB;cases a ρ<;>rfl
def c0o:tV a ρ=lT (a ρ):=by unfold tV;cases a ρ<;>rfl
def b8N:tNo t ρ=b8D (t ρ):=by unfold tNo;cases t ρ<;>rfl
def b8O:tAn s t ρ=b6I (s ρ) t ρ:=by
 unfold tAn;cases s ρ with
 |none=>rfl
 |some k=>cases k<;>rfl
def b8P:W8 s t ρ=orT (s ρ) t ρ:=by
 unfold W8;cases s ρ with
 |none=>rfl
 |some k=>cases k<;>rfl
def v_and:a4C a b ρ=b6J (a ρ) b ρ:=by
 unfold a4C;cases h:a ρ with
 |none=>rfl
 |some d=>cases d with
  |bool k=>cases k<;>rfl
  |_=>rfl
def v_or:eOr a b ρ=orE (a ρ) b ρ:=by
 unfold eOr;cases h:a ρ with
 |none=>rfl
 |some d=>cases d with
  |bool k=>cases k<;>rfl
  |_=>rfl
def v_not:b3T a ρ=b8E (a ρ):=by
 unfold b3T;cases h:a ρ with
 |none=>rfl
 |some d=>cases d<;>rfl
def b8Q:eIf t a b ρ=b4e (t ρ) a b ρ:=by
 unfold eIf;cases t ρ with
 |none=>rfl
 |some k=>cases k<;>rfl
def b5B:J1 f ρ=listE (f ρ):=by unfold J1;cases f ρ<;>rfl
def b8R:N7 f ρ=b8H (f ρ):=by unfold N7;cases f ρ<;>rfl
def C8:i4 s t ρ=thn (s ρ) t:=by
 unfold i4;cases s ρ with
 |none=>rfl
 |some o=>cases o<;>rfl
def a1n:j8 i a ρ=b8F i (a ρ) ρ:=by unfold j8;cases a ρ<;>rfl
def b8S:n5 a ρ=retS (a ρ):=by unfold n5;cases a ρ<;>rfl
def c0p:sEx a ρ=exS (a ρ) ρ:=by unfold sEx;cases a ρ<;>rfl
def b7d:q8 ρ=el (.nx ρ):=rfl
def a0i:sIf t s s' ρ=b6K (t ρ) s s' ρ:=by
 unfold sIf;cases t ρ with
 |none=>rfl
 |some k=>cases k<;>rfl
def b5C{set:List D→D→Option (List D)}:E1 fi set g ρ=b8G set g (fi ρ) ρ:=by unfold E1;cases fi ρ<;>rfl
def b7e:a3F i j a ρ=b1y i j (a ρ) ρ:=by
 unfold a3F;cases h:a ρ with
 |none=>rfl
 |some d=>
  match d with
  |.tuple [x,y]=>rfl
  |.tuple []=>rfl
  |.tuple [_]=>rfl
  |.tuple (_::_::_::_)=>rfl
  |.none=>rfl
  |.bool _=>rfl
  |.int _=>rfl
  |.str _=>rfl
  |.list _=>rfl
  |.dict _=>rfl
def O2(h:argsOk us ds=true):fnD us n g ds=a2n (g (ds++aO n .none)):=by
 unfold fnD;rw[aB h];cases g (ds++aO n .none) with
 |none=>rfl
 |some o=>cases o<;>rfl
def v_add:l9 (.int i) (.int j)=el (.int (i+j)):=rfl
def v_sub:a4y (.int i) (.int j)=el (.int (i-j)):=rfl
def v_lt:dLt (.int i) (.int j)=el (.bool (decide (i<j))):=rfl
def c0q:dLe (.int i) (.int j)=el (.bool (decide (i≤j))):=rfl
def c0r:dGt (.int i) (.int j)=el (.bool (decide (j<i))):=rfl
def c0s:dGe (.int i) (.int j)=el (.bool (decide (j≤i))):=rfl
def v_mod(h:0<j):u9 (.int i) (.int j)=el (.int (i % j)):=by
 show (if b6y i j=true then _ else _)=_;rw[aB (show b6y i j=true from aH h)]
def v_div(h:0<j)(h':j<1073741824):N5 (.int i) (.int j)=el (.int (i / j)):=by
 show (if b3Q i j=true then _ else _)=_;rw[aB (by unfold b3Q;rw[aH h,aH h'];rfl)]
def a0P{i j:Int}(h:i.natAbs<2^64):A3 (.int i) (.int j)=el (.int (i*j)):=by
 show (if a9i i j=true then _ else _)=_;rw[aB (by unfold a9i;rw[aH h];rfl)]
def a0Q{i j:Int}(h:j.natAbs<2^64):A3 (.int i) (.int j)=el (.int (i*j)):=by
 show (if a9i i j=true then _ else _)=_;rw[aB (by unfold a9i;rw[aH h,Bool.or_true])]
def v_pow(h:b3R i j=true):a4z (.int i) (.int j)=el (.int (i^j.toNat)):=by
 show (if b3R i j=true then _ else _)=_;rw[aB h]
def b8T:dEq (.int i) (.int j)=el (.bool (decide (i=j))):=by
 show el (df (false !=aJ (.int i) (.int j)))=_;have:aJ (.int i) (.int j)=decide (i=j):=by
  show (i==j)=decide (i=j);exact iy i j
 rw[this];simp
def b8U:dNe (.int i) (.int j)=el (.bool (!decide (i=j))):=by
 show el (df (true !=aJ (.int i) (.int j)))=_;have:aJ (.int i) (.int j)=decide (i=j):=by
  show (i==j)=decide (i=j);exact iy i j
 rw[this];simp
def b7f:y6 [.list ds]=el (.int ds.length):=rfl
def b7g:y6 [.tuple ds]=el (.int ds.length):=rfl
def b8V:dIx (.list ds) (.int k)=atI ds k:=rfl
def b8W:dIx (.tuple ds) (.int k)=atI ds k:=rfl
def b8X:u8 (.list ds) (.int k)=atI ds k:=rfl
def b8Y:D5 x y=l1 W9 (dIx x y):=by unfold D5;cases dIx x y<;>rfl
def b1A(h:imm d=true):W9 d=el d:=by unfold W9;rw[aB h]
def b8Z:b6z k (.bool i) (.bool j)=el (.bool (k !=(i==j))):=rfl
def a0j:imm (.int i)=true:=by simp only[imm]
def w8(ns:List Int):f6 (ns.map .int)=true:=by
 induction ns with
 |nil=>simp only[cU,f6]
 |cons n ns ih=>simp only[aA,f6,imm,ih,fV]
def a4N{α:Type}{xs:List α}(h0:0≤k)(h:k<(xs.length:Int)):atI xs k=el (xs[k.toNat]'(by lia)):=by
 unfold L2.atI ixN;rw[aB h0,aB h];exact ak (by lia)
def a9v(i:Nat):D→Option D→List D→Option Out
 |.list ds,el d,ρ=>if ds.length<1000000 then el (.nx (ρ.set i (.list (ds++[d])))) else p4
 |_,_,_=>p4
def b1B:D6 i (.l t) q9 a ρ=a9v i (ρ.getD i .none) (a ρ) ρ:=by
 unfold D6 q9
 dsimp only[bH]
 cases h:ρ.getD i .none with
 |list ds=>
  cases a ρ with
  |none=>rfl
  |some d=>rfl
 |_=>cases a ρ<;>rfl
def b7h{ds:List D}(h:ds.length<1000000):a9v i (.list ds) (el d) ρ=el (.nx (ρ.set i (.list (ds++[d])))):=by
 show (if ds.length<1000000 then el (Out.nx (ρ.set i (.list (ds++[d])))) else p4)=_;rw[aB h]
def a6Z(h:a ρ=el (.int n))(h0:0≤n)(h1:n<2^62):iR a ρ=el (F6 0 n.toNat):=by
 unfold iR;rw[h];show (if -(2^62)≤n∧n<2^62 then el (F6 0 n.toNat) else p4)=_;rw[aB ⟨by lia,h1⟩]
def a7a:(F6 lo n).length=n:=by unfold F6;simp
end
end VS
namespace VS
open PySem PySem.Spec L2
noncomputable def fnN(us:List Ty)(n:Nat)(g:EvS):List D→Option D:=λds=>if argsOk us ds then (g (ds++aO n .none)).bind λo=>match o with
 |.rt d=>el d
 |.nx _=>el .none
 |_=>p4
 else p4
open PyProof.Rows in
def b1C{P:br}{w:bL}{K:ag}{mg:bC→Option ah}{base:bN}{x:bC}{st:gM}{f:au}{fd:dC}{N ps:List bC}{k n:Nat}{us:List Ty}{u:Ty}{g:EvS}{M':List Md}(F:Fun K x x st f fd)(S:FnScope N ps (i8 st))(mO:us.length=ps.length)(hn:N.length=ps.length+n)
  (hb:∀(gd:ah) (A:bD) (outer:List n_) (s:ai) (H:Hp) (E:XK),Room k (A.deeper (iY x (i8 st) s.heap.objs.size f gd))→PSsX (a0a CX0 P w K mg base N x (i8 st) f gd A outer s H E).nox .i [] (us.map .own++aO n .dead) (v4 st) g M') (hu:u=.i:=by rfl) :
  FnOk P w K mg base CX0 (k+1) f fd ps (spD K ps.length (fnN us n g) u):=by
 subst hu;refine F.ok S (λvs H Q E h=>?_) (λgd A outer s H vs Q E hr h=>?_)
 ·obtain⟨ds,d,hl,_⟩:=h;exact hl
 obtain⟨ds,d,hl,hd,hm,q⟩:=h;obtain⟨t,p,r⟩:=(hb gd A outer s H E hr).out;refine⟨t,p,?_⟩;unfold fnN at hm;by_cases ha:argsOk us ds=true
 ·rw[aB ha]at hm;obtain⟨o,h1,h2⟩:=bnd hm;have e:L2.start N vs=vs.map el++aO n p4:=by
   unfold L2.start;rw[show N.length-vs.length=n by lia]
  have S0:StR K (us.map .own++aO n .dead) (ds++aO n jz) (vs.map el++aO n p4) H H []:=⟨⟨[],Q3 ha hd n,bA,λa ha=>(nomatch ha)⟩,λa ha=>(nomatch ha),by rw[J0];exact Same.refl H⟩;cases o with
  |rt d'=>
   have jh:el d'=el d:=h2;cases jh
   rw[e];exact r _ (ds++aO n jz) _ H H [] (.rt d) S0 h1 λv H' fp o nd fr e=>q v H' fp e o nd fr
  |nx ρ=>
   have jh:el jz=el d:=h2;cases jh
   rw[e];refine r _ (ds++aO n jz) _ H H [] (.nx ρ) S0 h1 λσ' H' F' S'=>?_
   refine q .non H' [] (S'.prot.trans i7) ?_ bA λa ha=>(nomatch ha)
   simp only[Own];exact⟨trivial,by simp only[imm],den_none⟩
  |_=>cases h2
 ·rw[aI ha]at hm;cases hm
def A4:∀{l:List α} {l':List β},eO R l l'→∀{j:Nat} {x:α},l[j]?=el x→∃y,l'[j]?=el y∧R x y:=by
 intro l l' h
 induction h with
 |nil=>intro j x e;simp at e
 |cons r _ ih=>
  intro j x e;cases j with
  |zero=>cases e;exact⟨_,rfl,r⟩
  |succ j=>exact ih (by simpa using e)
def a1o:∀{l:List α} {l':List β},eO R l l'→∀{j:Nat} {y:β},l'[j]?=el y→∃x,l[j]?=el x∧R x y:=by
 intro l l' h
 induction h with
 |nil=>intro j x e;simp at e
 |cons r _ ih=>
  intro j x e;cases j with
  |zero=>cases e;exact⟨_,rfl,r⟩
  |succ j=>exact ih (by simpa using e)
section
variable {X:Cx}{pins:List (au×fD)}{σ:L2.St}{H:Hp}{s:ai}{A:bD}{E:ah→ai→Prop}{a:au}{es:List (D×V×V)}{o:fD}{ents:Array eA}{ep:Nat}{kt:Bool}{k:D}{kv:V}{key:ah}
def a0R(I:Inv X pins σ H s)(kk:keyOk kt k)(dk:Den X.K H kv k)(rk:RelV kv key):∃as,Reads s.heap key k as:=Den.reads I k (T2 _ kk.1) dk rk
def V2(I:Inv X pins σ H s)(hu:A.units+10<cV)(kk:keyOk kt k)(dk:Den X.K H kv k)(rk:RelV kv key)(h:Q (hashD k) {s with toks:=s.toks+p8 k}):aC (aV X.prog X.w) A (pyHash key) Q E s:=by
 obtain⟨as,r⟩:=a0R I kk dk rk;exact a2b k kk.1 (by have:=kk.2.1;lia) r h
def V3(I:Inv X pins σ H s)(hu:A.units+10<cV)(ho:s.heap.get? a=el o)(hd:o.data=.dict ents ep)(hp:eO K2 es ents.toList)(hn:(es.map (·.1)).Nodup)(hk:∀e∈es,keyOk kt e.1∧Den X.K H e.2.1 e.1)
  (kk:keyOk kt k) (dk:Den X.K H kv k) (rk:RelV kv key) (jG:(∀e∈es,e.1≠k)→Q p4 s) (jF:∀j e,es[j]?=el e→e.1=k→Q (el j) s) :
  aC (aV X.prog X.w) A (dictFind a key (hashD k)) Q E s:=by
 cases kt with
 |false=>
  obtain⟨i,rfl⟩:=kk.2.2.2 rfl;cases dk.int_inv
  obtain⟨t,rfl⟩:=rk;have ent:∀(j:Nat) (x:eA),ents.toList[j]?=el x→∃e n u,es[j]?=el e∧e.1=.int n∧x.key=.int n u∧x.hash=jK n:=λj x hx=>by
   obtain⟨e,he,h1,h2,_⟩:=a1o hp hx;obtain⟨k1,k2⟩:=hk e (bo he);obtain⟨n,en⟩:=k1.2.2.2 rfl;rw[en]at k2 h1;have e2:=k2.int_inv;rw[e2]at h2;obtain⟨u,rT⟩:=h2;exact⟨e,n,u,he,en,rT,by simpa[hashD]using h1⟩
  show aC (aV X.prog X.w) A (dictFind a (.int i t) ((dh X.prog X.w).hash i)) Q E s;refine wpAny_dictFind_of (knd:=dh X.prog X.w) (k:=i) (by simp[dh,ju]) ho hd (λx hx=>?_) ?_
  ·obtain⟨j,hj⟩:=bM.mp (dM.mpr hx);obtain⟨e,n,u,_,_,h3,h4⟩:=ent j x hj;exact⟨n,by rw[h3];simp[dh,ju],h4⟩
  ·cases hf:ents.findIdx? λe=>(dh X.prog X.w).is i e.key with
   |none=>
    refine jG λe he fH=>?_
    obtain⟨j,hj⟩:=bM.mp he;obtain⟨x,hx,_⟩:=A4 hp hj;obtain⟨e',n,u,h1,h2,h3,_⟩:=ent j x hx;rw[hj]at h1;cases h1
    rw[fH]at h2;cases h2
    have:=Array.findIdx?_eq_none_iff.mp hf x (dM.mp (bo hx));rw[h3]at this;simp[dh,ju]at this
   |some j=>
    obtain⟨hW,uU,_⟩:=Array.findIdx?_eq_some_iff_getElem.mp hf;have hx:ents.toList[j]?=el ents[j]:=by simp[hW]
    obtain⟨e,n,u,h1,h2,h3,_⟩:=ent j _ hx;have sU:n=i:=by
     rw[h3]at uU;simpa[dh,ju]using uU
    subst sU;exact jF j e h1 h2
 |true=>
  obtain⟨ds,rfl⟩:=kk.2.2.1 rfl;obtain⟨p,uA,rfl,_,_⟩:=dk.tup_inv;cases (show key=aW p from rk)
  obtain⟨as,BQ⟩:=a0R I kk (dk) (show RelV (.ref p) (.ref p) from rfl);have build:∀{es:List (D×V×V)} {l:List eA},eO K2 es l→(∀e∈es,keyOk true e.1∧Den X.K H e.2.1 e.1)→∃xs:List (D×au×ah),l=xs.map (λx=>(⟨hashD x.1,.ref x.2.1,x.2.2⟩:eA))∧xs.map (·.1)=es.map (·.1)∧∀x∈xs,A5 x.1=true∧x.1.depth≤7∧∃as,Reads s.heap (.ref x.2.1) x.1 as:=by
   intro es l hp
   induction hp with
   |nil=>exact λ_=>⟨[],rfl,rfl,λx hx=>(nomatch hx)⟩
   |@cons e x es l r _ ih=>
    intro hk;obtain⟨xs,i1,i2,i3⟩:=ih λe he=>hk e (aq _ he)
    obtain⟨k1,k2⟩:=hk e aj;obtain⟨as,rr⟩:=a0R I k1 k2 r.2.1;obtain⟨ds,ed⟩:=k1.2.2.1 rfl;have:∃q,x.key=.ref q:=by
     rw[ed]at rr;cases CI:x.key with
     |ref q=>exact⟨q,rfl⟩
     |_=>rw[CI]at rr;cases rr
    obtain⟨q,hq⟩:=this;refine⟨(e.1,q,x.val)::xs,?_,by rw[aA,aA,i2],λy hy=>?_⟩
    ·rw[aA,←i1]
     congr 1;obtain⟨xh,xk,xv⟩:=x;simp only at hq;rw[show xh=hashD e.1 from r.1,hq]
    ·rcases az.mp hy with z|z
     ·subst z;exact⟨k1.1,k1.2.1,as,by rw[hq]at rr;exact rr⟩
     ·exact i3 y z
  obtain⟨xs,x1,x2,x3⟩:=build hp hk;have idx:∀(j:Nat) (kk:D),(∃p,xs[j]?=el (kk,p))↔∃e,es[j]?=el e∧e.1=kk:=λj kk=>by
   have:(xs.map (·.1))[j]?=(es.map (·.1))[j]?:=by rw[x2]
   rw[aU,aU]at this
   constructor
   ·rintro⟨q,hq⟩;rw[hq]at this;cases he:es[j]? with
    |none=>rw[he]at this;cases this
    |some e=>rw[he]at this;exact⟨e,rfl,(aK this).symm⟩
   ·rintro⟨e,he,hk⟩;rw[he]at this;cases hx:xs[j]? with
    |none=>rw[hx]at this;cases this
    |some x=>
     rw[hx]at this;have e1:x.1=e.1:=aK this;exact⟨x.2,by rw[←hk,←e1]⟩
  refine @wpAny_dictFind_heap X.prog X.w D a9h (b1d X.prog X.w) A E s a p o ents ep xs (.tuple ds) Q (by show A.units+8<cV;lia) ⟨kk.1,kk.2.1,as,BQ⟩ ho hd x1 x3 (by rw[x2];exact hn) (λh=>jG λe he fH=>?_) (λj q hj=>?_)
  ·obtain⟨j,hj⟩:=bM.mp he;obtain⟨q,hq⟩:=(idx j (.tuple ds)).mpr ⟨e,hj,fH⟩;exact h j q hq
  ·obtain⟨e,he,fH⟩:=(idx j (.tuple ds)).mp ⟨q,hj⟩;exact jF j e he fH
end
def r8(es:List (D×V×V))(k:D):Bool:=es.any λe=>aJ e.1 k
def O3(es:List (D×V×V))(k:D)(kv v:V):List (D×V×V):=if r8 es k then es.map λe=>if aJ e.1 k then (e.1,e.2.1,v) else e else es++[(k,kv,v)]
section
variable {X:Cx}{pins:List (au×fD)}{σ:L2.St}{H:Hp}{s:ai}{A:bD}{E:ah→ai→Prop}{a:au}{es:List (D×V×V)}{kt:Bool}{k:D}{kv v:V}{key val:ah}
def a7b(h:K3 (ks++[x])=false):K3 ks=false:=by
 cases ks with
 |nil=>rfl
 |cons e ks=>
  unfold K3 at h ⊢
  split at h
  ·cases h
  ·rename_i hn
   split
   ·rename_i heq
    cases heq
    exact absurd rfl (hn _)
   ·rfl
def a7c{x:D×V×V}(h:C2 (es++[x])=false):C2 es=false:=by
 rw[C2,aT]at h;exact a7b h
def a0S(I:Inv X pins σ H s)(h:H a=el (c6 a es)):(a==cR)=false∧es.length≤aS∧(es.map (·.1)).Nodup∧∃o ents ep,s.heap.get? a=el o∧o.ExactDict∧o.data=.dict ents ep∧eO K2 es ents.toList∧(C2 es=false→ep=es.length):=
 (show ObjOk X.prog X.w H s.heap a (c6 a es) from I.hok a _ h).1
def V4(I:Inv X pins σ H s)(h:H a=el (c6 a es))(hL:C2 es=false):(a==cR)=false∧es.length≤aS∧(es.map (·.1)).Nodup∧∃o ents,s.heap.get? a=el o∧o.ExactDict∧o.data=.dict ents es.length∧eO K2 es ents.toList:=
 let⟨a1,a2,a3,o,ents,_,r1,r2,r3,r4,r5⟩:=a0S I h;⟨a1,a2,a3,o,ents,r1,r2,r5 hL▸r3,r4⟩
def m8(I:Inv X pins σ H s)(h:H a=el (c6 a es)):(a==cR)=false∧es.length≤aS∧(es.map (·.1)).Nodup∧∃o ents ep,s.heap.get? a=el o∧o.ExactDict∧o.data=.dict ents ep∧eO K2 es ents.toList:=
 let⟨a1,a2,a3,o,ents,ep,r1,r2,r3,r4,_⟩:=a0S I h;⟨a1,a2,a3,o,ents,ep,r1,r2,r3,r4⟩
def a2o(I:Inv X pins σ H s)(h:H a=el (c6 a es)){o:fD}{ents:Array eA}{ep:Nat}(h1:s.heap.get? a=el o)(h3:o.data=.dict ents ep)(hL:C2 es=false):ep=es.length:=by
 obtain⟨_,_,_,o',sr,g1,_,g3,_⟩:=V4 I h hL;rw[h1]at g1;cases g1
 rw[h3]at g3
 injection g3
def j6(I:Inv X pins σ H s)(h:H a=el (c6 a es)):s.TypeIs (.ref a) "dict":=by
 obtain⟨_,_,_,o,ents,ep,h1,h2,_⟩:=m8 I h;exact⟨o,h1,h2.1⟩
def J4(I:Inv X pins σ H s)(h:H a=el (c6 a es)):∀b,aW a=.ref b→∃ob,s.heap.get? b=el ob∧ob.dict=p4:=λb q=>by
 cases q
 obtain⟨_,_,_,o,ents,ep,h1,h2,_⟩:=m8 I h;exact⟨o,h1,h2.2.1⟩
def V5{P:br}{w:bL}{H':Hp}{h':bN}(hs:(a==cR)=false)(hl:es.length≤aS)(hn:(es.map (·.1)).Nodup){o:fD}{ents:Array eA}{ep:Nat}(h1:h'.get? a=el o)(h2:o.ExactDict)(h3:o.data=.dict ents ep)(he:C2 es=false→ep=es.length)(h4:eO K2 es ents.toList):ObjOk P w H' h' a (c6 a es):=
 ⟨⟨hs,hl,hn,o,ents,ep,h1,h2,h3,h4,he⟩,⟨o,h1⟩,λx1 x2 ⟨a1,a2,a3,o',sr,qA,b1,b2⟩ hk=>⟨a1,a2,a3,o',sr,qA,hk _ b1,b2⟩⟩
structure KeysAt (X:Cx) (H:Hp) (kt:Bool) (es:List (D×V×V)) (k:D) (kv:V):Prop where
 keys:∀e∈es,keyOk kt e.1∧Den X.K H e.2.1 e.1
 key:keyOk kt k
 den:Den X.K H kv k
def KeysAt.eqv(K:KeysAt X H kt es k kv){e:D×V×V}(he:e∈es):aJ e.1 k=true↔e.1=k:=A1 e.1 k (K.keys e he).1.1 K.key.1
def get_dict(I:Inv X pins σ H s)(hu:A.units+10<cV)(h:H a=el (c6 a es))(K:KeysAt X H kt es k kv)(rk:RelV kv key) 
  (jG:r8 es k=false→∀s',Inv X pins σ H s'→Q p4 s') (jF:∀e∈es,e.1=k→∀x s',Inv X pins σ H s'→RelV e.2.2 x→Q (el x) s') :
  aC (aV X.prog X.w) A (EU a key) Q E s:=by
 obtain⟨_,_,hn,o,ents,ep,h1,h2,h3,h4⟩:=m8 I h;unfold EU
 try with_reducible refine bJ ?_
 refine ab (V2 I hu K.key K.den rk (ab (V3 (s:={s with toks:=s.toks+p8 k}) (I.tok (s.toks+p8 k)) hu h1 h3 h4 hn K.keys K.key K.den rk ?_ ?_)))
 ·intro oD;refine ae (jG ?_ _ (I.tok _));unfold r8;rw[cB];exact λe he hq=>oD e he ((K.eqv he).mp hq)
 ·intro j e he fH;obtain⟨x,hx,r⟩:=A4 h4 he;refine ab (cC (s:={s with toks:=s.toks+p8 k}) h1 h3 ?_);have:ents[j]?=el x:=by rw[←bR];exact hx
  rw[this];exact ae (jF e (bo he) fH _ _ (I.tok _) r.2.2)
def a2p(hf:r8 es k=false):O3 es k kv v=es++[(k,kv,v)]:=by unfold O3;rw[hf];rfl
def a7d{α β:Type}{R:α→β→Prop}{l:List α}{l':List β}(h:eO R l l'){x:α}{y:β}(r:R x y):eO R (l++[x]) (l'++[y]):=by
 induction h with
 |nil=>exact .cons r .nil
 |cons q _ ih=>exact .cons q ih
def a9w(K:KeysAt X H kt es k kv)(hn:(es.map (·.1)).Nodup)(hf:r8 es k=false):((es++[(k,kv,v)]).map (·.1)).Nodup:=by
 rw[aT,aZ];refine⟨hn,by simp,λx hx y hy e=>?_⟩;simp only[aA,cU,ao]at hy;subst hy;subst e;obtain⟨e,he,rfl⟩:=aY.mp hx;unfold r8 at hf;rw[cB]at hf;exact hf e he ((K.eqv he).mpr rfl)
def a0T(I:Inv X pins σ H s)(h:H a=el (c6 a es))(K:KeysAt X H kt es k kv)(rk:RelV kv key)(rv:RelV v val)(hl:es.length<aS)(hf:r8 es k=false){t':Nat}{o:fD}{ents:Array eA}{ep:Nat}(h1:s.heap.get? a=el o)(h2:o.ExactDict)(h3:o.data=.dict ents ep)(h4:eO K2 es ents.toList) :
  Inv X pins σ (upd H a (c6 a (es++[(k,kv,v)]))) {s with heap:=s.heap.update a (·.mapDictKeys (·.push ⟨hashD k,key,val⟩)),toks:=t'}:=by
 obtain⟨hs,_,hn,_⟩:=m8 I h;refine I.write (x:=a) (e:=a) (by rw[h];exact jw) (.inl rfl) (λb q hb z=>((bQ ..).2 b hb).trans z) ⟨_,bT _ h1 (ib (gR h3 _))⟩ ?_;refine V5 hs (by simp;lia) (a9w K hn hf) (bT _ h1 (ib (gR h3 _))) (h2.mapDictKeys _) (gR h3 _) (λhL=>by rw[a2o I h h1 h3 (a7c hL),bg];rfl) ?_;have:=a7d h4 (x:=(k,kv,v)) (y:=⟨hashD k,key,val⟩) ⟨rfl,rk,rv⟩;obtain⟨l⟩:=ents;simpa using this
def a9x(I:Inv X pins σ H s)(hu:A.units+10<cV)(h:H a=el (c6 a es))(K:KeysAt X H kt es k kv)(rk:RelV kv key)(rv:RelV v val)(hl:es.length<aS){Q:ah→ai→Prop}
  (jG:r8 es k=false→∀s',Inv X pins σ (upd H a (c6 a (es++[(k,kv,v)]))) s'→Q val s') (jF:∀e∈es,e.1=k→∀x s',Inv X pins σ H s'→RelV e.2.2 x→Q x s') :
  aC (aV X.prog X.w) A (vS a key val) Q E s:=by
 obtain⟨_,_,hn,o,ents,ep,h1,h2,h3,h4⟩:=m8 I h;have hsz:ents.size≤aS:=by
  have:=cM h4;have e2:ents.toList.length=ents.size:=by simp
  lia
 unfold vS
 try with_reducible refine bJ ?_
 refine ab (V2 I hu K.key K.den rk (ab (V3 (s:={s with toks:=s.toks+p8 k}) (I.tok (s.toks+p8 k)) hu h1 h3 h4 hn K.keys K.key K.den rk ?_ ?_)))
 ·intro oD;have hf:r8 es k=false:=by
   unfold r8;rw[cB];exact λe he hq=>oD e he ((K.eqv he).mp hq)
  refine ab (dW (ab (mD (hz:=hsz) (s:={s with toks:=s.toks+p8 k}) h1 h3 (ae (jG hf _ (a0T (t':=s.toks+p8 k) I h K rk rv hl hf h1 h2 h3 h4))))))
 ·intro j e he fH;obtain⟨x,hx,r⟩:=A4 h4 he;refine ab (cC (s:={s with toks:=s.toks+p8 k}) h1 h3 ?_);have:ents[j]?=el x:=by rw[←bR];exact hx
  rw[this];exact ab (dW (ae (jF e (bo he) fH _ _ (I.tok (s.toks+p8 k)) r.2.2)))
def a7e(hp:eO K2 es l)(hn:(es.map (·.1)).Nodup)(hk:∀e∈es,aJ e.1 k=true↔e.1=k)(rv:RelV v val):∀{j:Nat} {e:D×V×V},es[j]?=el e→e.1=k→
  eO K2 (es.map λe=>if aJ e.1 k then (e.1,e.2.1,v) else e) (l.modify j λx=>{x with val:=val}):=by
 induction hp with
 |nil=>intro j e he;simp at he
 |@cons e0 x es l r hp ih=>
  intro j e he fH;rw[aA,bt]at hn;have oU:∀e∈es,aJ e.1 k=true↔e.1=k:=λe he=>hk e (aq _ he)
  cases j with
  |zero=>
   cases he
   have h0:aJ e0.1 k=true:=(hk _ aj).mpr fH;have jq:es.map (λe=>if aJ e.1 k then (e.1,e.2.1,v) else e)=es:=by
    have:∀e'∈es,(if aJ e'.1 k then (e'.1,e'.2.1,v) else e')=e':=λe' kL=>by
     rw[aI];intro q;exact hn.1 (by rw[fH,←(oU e' kL).mp q];exact bG kL)
    rw[cD this,gD]
   rw[aA,aB h0,jq];exact .cons ⟨r.1,r.2.1,rv⟩ hp
  |succ j=>
   have kL:es[j]?=el e:=by simpa using he
   have gj:¬ aJ e0.1 k=true:=λq=>hn.1 (by rw[(hk _ aj).mp q,←fH];exact bG (bo kL))
   rw[aA,aI gj];exact .cons r (ih hn.2 oU kL fH)
def a0k{es:List (D×V×V)}:(es.map λe=>if aJ e.1 k then (e.1,e.2.1,v) else e).map (·.1)=es.map (·.1):=by
 rw[bO];refine cD λe _=>?_
 show (if aJ e.1 k then (e.1,e.2.1,v) else e).1=e.1
 split<;>rfl
def set_dict(I:Inv X pins σ H s)(hu:A.units+10<cV)(h:H a=el (c6 a es))(K:KeysAt X H kt es k kv)(rk:RelV kv key)(rv:RelV v val)(hl:es.length<aS){Q:Unit→ai→Prop}
  (hQ:∀s',Inv X pins σ (upd H a (c6 a (O3 es k kv v))) s'→Q () s'):aC (aV X.prog X.w) A (ET a key val) Q E s:=by
 obtain⟨hs,_,hn,o,ents,ep,h1,h2,h3,h4⟩:=m8 I h;have hsz:ents.size≤aS:=by
  have:=cM h4;have e2:ents.toList.length=ents.size:=by simp
  lia
 unfold ET
 try with_reducible refine bJ ?_
 refine ab (V2 I hu K.key K.den rk ?_);unfold kN
 try with_reducible refine bJ ?_
 refine ab (V3 (s:={s with toks:=s.toks+p8 k}) (I.tok (s.toks+p8 k)) hu h1 h3 h4 hn K.keys K.key K.den rk ?_ ?_)
 ·intro oD;have hf:r8 es k=false:=by
   unfold r8;rw[cB];exact λe he hq=>oD e he ((K.eqv he).mp hq)
  rw[a2p hf]at hQ;exact ab (dW (mD (hz:=hsz) (s:={s with toks:=s.toks+p8 k}) h1 h3 (hQ _ (a0T (t':=s.toks+p8 k) I h K rk rv hl hf h1 h2 h3 h4))))
 ·intro j e he fH;have hf:r8 es k=true:=by
   unfold r8;rw[cZ];exact⟨e,bo he,(K.eqv (bo he)).mpr fH⟩
  have qA:O3 es k kv v=es.map λe=>if aJ e.1 k then (e.1,e.2.1,v) else e:=by unfold O3;rw[hf];rfl
  rw[qA]at hQ;refine ab (dW (ab (wpAny_updateDict (s:={s with toks:=s.toks+p8 k}) h1 h3 (wpAny_point (hQ _ ?_)))));refine I.write (x:=a) (e:=a) (t':=s.toks+p8 k) (by rw[h];exact jw) (.inl rfl) (λb q hb z=>((bQ ..).2 b hb).trans z) ⟨_,bT _ h1 (ib (rB h3 _))⟩ ?_;refine V5 hs (by rw[ar];lia) (by rw[a0k];exact hn) (bT _ h1 (ib (rB h3 _))) (h2.mapDict _) (rB h3 _) (λhL=>by rw[C2,a0k]at hL;rw[a2o I h h1 h3 hL,ar]) ?_;have:=a7e h4 hn (λe he=>K.eqv he) rv he fH;obtain⟨l⟩:=ents;simpa using this
end
def a3H(i:Expr):Prop:=∀ov iv,rO i false ov iv=operate [ov,iv] (pU ov iv)
open PyProof.Rows in
def b9a{prog:br}{w:bL}{A:bD}{E:ah→ai→Prop}{s:ai}{env:n_}{value slice:Expr}{pos:ff}{T id:String}{Q:ah→ai→Prop}
  (hl:om (.type T) "__getitem__"=pure (el (.builtin id))) (hs:a3H slice)
  (h:aC (aV prog w) A (cy value env) (λo s₁=>aC (aV prog w) A (cy slice env) (λi s₂=>s₂.TypeIs o T∧aC (aV prog w) A (pU o i) Q E s₂) E s₁) E s) :
  aC (aV prog w) A (cy (.Subscript value slice pos) env) Q E s:=by
 refine PyProof.Rows.Subscript_ (cX h (λo s₁ h₁=>cX h₁ (λi s₂ h₂=>?_) λ_ _ x=>x) λ_ _ x=>x);obtain⟨hT,h₂⟩:=h₂;unfold subscriptTail;refine ab ?_;rw[getitemInPython_of_ne hT.not_modules];refine ab (dy hT hl ?_);have fin:aC (aV prog w) A (rO slice false o i) (λr s₃=>aC (aV prog w) A (letTemporaryGo value o r >>= λ_=>pure r) Q E s₃) E s₂:=by
  rw[hs o i];exact wpAny_operating (cX h₂ (λr s₃ h₃=>ab (wpAny_letTemporaryGo (ae h₃))) λ_ _ x=>x)
 first
  |exact ae (ab fin)
  |exact ab (ae (ab fin))
  |exact ab fin
section
variable {X:Cx}{pins:List (au×fD)}{σ:L2.St}{H:Hp}{s:ai}{A:bD}{E:ah→ai→Prop}{a:au}{es:List (D×V×V)}{kt:Bool}{k:D}{kv v:V}{key val:ah}
def a2q(hu:A.units+12<cV)(I:Inv X pins σ H s)(h:H a=el (c6 a es))(K:KeysAt X H kt es k kv)(rk:RelV kv key)(hh:r8 es k=true)
  (hQ:∀e∈es,e.1=k→∀x s',Inv X pins σ H s'→RelV e.2.2 x→Q x s'):aC (aV X.prog X.w) A (pU (.ref a) key) Q E s:=by
 have hT:=j6 I h;unfold pU
 try with_reducible refine bJ ?_
 refine ab (wpAny_sequenceKey hT (by decide) ?_);refine ab (bK (name:=cm "__getitem__") hT slot_dict_getitem (bB slot_dict_getitem hT entry_dict_getitem ?_ (args_dict_getitem _ _)));show aC _ _ (EU a key >>= _) _ _ s;refine ab (get_dict (A:=A.in1) I (by show A.units+1+10<cV;lia) h K rk (λhf=>by rw[hh]at hf;cases hf) λe he fH x s' I' r=>?_);exact ae ⟨x,rfl,ae (hQ e he fH x s' I' r)⟩
def a1p(hu:A.units+12<cV)(I:Inv X pins σ H s)(h:H a=el (c6 a es))(K:KeysAt X H kt es k kv)(rk:RelV kv key)
  (hQ:∀s',Inv X pins σ H s'→Q (r8 es k) s'):aC (aV X.prog X.w) A (contains (.ref a) key) Q E s:=by
 have hT:=j6 I h;obtain⟨hd,_⟩:=m8 I h;unfold contains
 try with_reducible refine bJ ?_
 refine ab (dy hT slot_dict_contains.lookup ?_);show aC _ _ (if (el (zh "dict.__contains__")==el bz)=true then _ else _) _ E s;rw[aI (by rw[beq_builtin_none];exact aQ)];refine ab (wpAny_callSpecialUnlessNone?_slot (name:=cm "__contains__") hT slot_dict_contains (bB slot_dict_contains hT entry_dict_contains ?_ (args_dict_contains _ _)));show aC _ _ (EU a key >>= _) _ _ s;refine ab (get_dict (A:=A.in1) I (by show A.units+1+10<cV;lia) h K rk (λhf s' I'=>?_) λe he fH x s' I' r=>?_)
 ·rw[hf]at hQ;show aC _ _ (Builtin.Dict.pendingKey? a key >>= _) _ _ _;exact ab (wpAny_pendingKey_other hd (ae ⟨_,rfl,eR (hQ s' I')⟩))
 ·have hf:r8 es k=true:=by
   unfold r8;rw[cZ];exact⟨e,he,(K.eqv he).mpr fH⟩
  rw[hf]at hQ;show aC _ _ (ret (.bool true)) _ _ _;exact ae ⟨_,rfl,eR (hQ s' I')⟩
def b9b(hu:A.units+12<cV)(I:Inv X pins σ H s)(h:H a=el (c6 a es))(K:KeysAt X H kt es k kv)(rk:RelV kv key)
  (hQ:∀s',Inv X pins σ H s'→Q (.bool (r8 es k)) s'):aC (aV X.prog X.w) A (bS .In key (.ref a)) Q E s:=by
 show aC _ _ (do return .bool (←contains (.ref a) key)) Q E s;exact ab (a1p hu I h K rk λs' I'=>ae (hQ s' I'))
def b1D(hu:A.units+12<cV)(I:Inv X pins σ H s)(h:H a=el (c6 a es))(K:KeysAt X H kt es k kv)(rk:RelV kv key)
  (hQ:∀s',Inv X pins σ H s'→Q (.bool (!r8 es k)) s'):aC (aV X.prog X.w) A (bS .NotIn key (.ref a)) Q E s:=by
 show aC _ _ (do return .bool (!(←contains (.ref a) key))) Q E s;exact ab (a1p hu I h K rk λs' I'=>ae (hQ s' I'))
def a7f(hu:A.units+12<cV)(I:Inv X pins σ H s)(h:H a=el (c6 a es))(K:KeysAt X H kt es k kv)(rk:RelV kv key)(rv:RelV v val)(hl:es.length<aS)
  (hQ:∀s',Inv X pins σ (upd H a (c6 a (O3 es k kv v))) s'→Q () s'):aC (aV X.prog X.w) A (setItem (.ref a) key val) Q E s:=by
 have hT:=j6 I h;unfold setItem
 try with_reducible refine bJ ?_
 refine ab (wpAny_sequenceKey hT (by decide) ?_);refine ab (bK (name:=cm "__setitem__") hT slot_dict_setitem (bB slot_dict_setitem hT entry_dict_setitem ?_ (args_dict_setitem _ _ _)));show aC _ _ (Builtin.Dict.notOrdered "__setitem__" ⟨[.ref a,key,val],[]⟩ >>= _) _ _ s;refine ab (fG hT ?_);show aC _ _ (ET a key val >>= _) _ _ s;exact ab (set_dict (A:=A.in1) I (by show A.units+1+10<cV;lia) h K rk rv hl λs' I'=>ae ⟨.none,rfl,ae (hQ s' I')⟩)
def b4h(hu:A.units+12<cV)(I:Inv X pins σ H s)(h:H a=el (c6 a es))(K:KeysAt X H kt es k kv)(rk:RelV kv key)(rv:RelV v val)(hl:es.length<aS)
  (jG:r8 es k=false→∀s',Inv X pins σ (upd H a (c6 a (es++[(k,kv,v)]))) s'→Q val s') (jF:∀e∈es,e.1=k→∀x s',Inv X pins σ H s'→RelV e.2.2 x→Q x s') :
  aC (aV X.prog X.w) A (call (.builtin "dict.setdefault") [.ref a,key,val]) Q E s:=by
 have hT:=j6 I h;obtain⟨hd,_⟩:=m8 I h;refine bB F.slot_dict_setdefault hT F.entry_dict_setdefault ?_ (F.args_dict_setdefault_3 _ _ _);unfold Builtin.«dict.setdefault»;refine ab ?_;unfold Builtin.Dict.keyAndDefault;refine ab (fG hT ?_);show aC _ _ (pure (a,key,el val)) _ _ s;refine ae ?_;show aC _ _ (if (a==cR)=true then _ else (vS a key val >>= _)) _ _ s;rw[aI (by rw[hd];exact aQ)];exact ab (a9x (A:=A.in1) I (by show A.units+1+10<cV;lia) h K rk rv hl (λhf s' I'=>ae ⟨_,rfl,jG hf s' I'⟩) λe he fH x s' I' r=>ae ⟨_,rfl,jF e he fH x s' I' r⟩)
def b7i(I:Inv X pins σ H s)(h:H a=el (c6 a es))(hQ:∀t s',Inv X pins σ H s'→Q (.int es.length t) s'):aC (aV X.prog X.w) A (call (.builtin "len") [.ref a]) Q E s:=by
 have hT:=j6 I h;obtain⟨hd,hl,_,o,ents,ep,h1,h2,h3,h4⟩:=m8 I h;have hsz:ents.size=es.length:=by
  have:=cM h4;have e2:ents.toList.length=ents.size:=by simp
  lia
 have pG:(es.length:Int)<2^63:=by
  have:aS<2^62:=by decide
  lia
 refine kF kind_len plain_len entry_len (args_len1 _) ?_;unfold Builtin.«len»;refine ab (m:=oneArg "len" _) (ae ?_);refine ab (m:=callSpecial? (.ref a) (cm "__len__")) (bK (name:=cm "__len__") hT ip (bB ip hT F.entry_dict_len ?_ (F.args_dict_len_1 _)));show aC _ _ (dictSize a >>= _) _ _ s;unfold dictSize;refine ab (ab (cC h1 h3 (ae ?_)));show aC _ _ (xf a >>= _) _ _ s;refine ab (xj hd ?_);refine sF ?_;rw[Nat.add_zero,hsz];refine ab (bJ (ae ?_));refine ab (mH ?_);show aC _ _ (if ((es.length:Nat):Int)<0 then _ else _) _ _ _;rw[aI (by lia)];show aC _ _ (if ((es.length:Nat):Int)≥2^63 then _ else _) _ _ _;rw[aI (by lia)];exact ab (wpAny_mkInt (ae ⟨_,rfl,hQ _ _ (I.tok _)⟩))
end
def v7(kvs:List (D×D))(k:D):Bool:=kvs.any λp=>aJ p.1 k
def y7(kvs:List (D×D))(k:D):Option D:=(kvs.find? λp=>aJ p.1 k).map (·.2)
def n8(kvs:List (D×D))(k d:D):List (D×D):=if v7 kvs k then kvs.map λp=>if aJ p.1 k then (p.1,d) else p else kvs++[(k,d)]
def m9(kt:Bool)(k:D):Bool:=A5 k&&decide (k.depth≤7)&&match k with
 |.tuple _=>kt
 |.int _=>!kt
 |_=>false
def v5(h:m9 kt k=true):keyOk kt k:=by
 unfold m9 at h;rw[av,av]at h;refine⟨h.1.1,aN h.1.2,λe=>?_,λe=>?_⟩
 ·subst e;cases k with
  |tuple ds=>exact⟨ds,rfl⟩
  |int i=>have:=h.2;simp at this
  |_=>have:=h.2;simp at this
 ·subst e;cases k with
  |int i=>exact⟨i,rfl⟩
  |tuple ds=>have:=h.2;simp at this
  |_=>have:=h.2;simp at this
def dIn(neg kt:Bool):D→D→Option D
 |k,.dict kvs=>if m9 kt k then el (.bool (neg !=v7 kvs k)) else p4
 |_,_=>p4
def a9y(kt:Bool):D→D→Option D
 |.dict kvs,k=>if m9 kt k then y7 kvs k else p4
 |_,_=>p4
def a5G:List D→Option D
 |[.dict kvs]=>el (.int kvs.length)
 |_=>p4
theorem v8:∀{es:List (D×V×V)} {ds:List D},ds.length=es.length→v7 ((es.map (·.1)).zip ds) k=r8 es k
 |[],ds,_=>by simp[v7,r8]
 |e::es,[],h=>by simp at h
 |e::es,d::ds,h=>by
  have ih:=v8 (k:=k) (es:=es) (ds:=ds) (by simpa using h);unfold v7 r8 at ih ⊢;simp only[aA,dZ,jT,ih]
theorem a0l:∀{es:List (D×V×V)} {ds:List D} {j:Nat} {e:D×V×V} {d:D},ds.length=es.length→(∀e∈es,aJ e.1 k=true↔e.1=k)→(es.map (·.1)).Nodup→es[j]?=el e→e.1=k→ds[j]?=el d→y7 ((es.map (·.1)).zip ds) k=el d
 |[],ds,j,e,d,_,_,_,he,_,_=>by simp at he
 |e0::es,[],j,e,d,h,_,_,_,_,_=>by simp at h
 |e0::es,d0::ds,0,e,d,h,hk,_,he,fH,hd=>by
  cases he
  cases hd
  have:aJ e0.1 k=true:=(hk _ aj).mpr fH;simp[y7,this]
 |e0::es,d0::ds,j+1,e,d,h,hk,hn,he,fH,hd=>by
  rw[aA,bt]at hn;have kL:es[j]?=el e:=by simpa using he
  have km:ds[j]?=el d:=by simpa using hd
  have ih:=a0l (k:=k) (by simpa using h) (λe he=>hk e (aq _ he)) hn.2 kL fH km;have gj:aJ e0.1 k=false:=by
   cases q:aJ e0.1 k with
   |false=>rfl
   |true=>exact absurd (by rw[(hk _ aj).mp q,←fH];exact bG (bo kL)) hn.1
  unfold y7 at ih ⊢;simp only[aA,dZ,gW,gj];exact ih
def a3I(h:v7 kvs k=false):y7 kvs k=p4:=by
 unfold v7 at h;rw[cB]at h;unfold y7;rw[fT.mpr λp hp=>by simpa using h p hp];rfl
def a0m(h:y7 kvs k=el d):v7 kvs k=true:=by
 cases q:v7 kvs k with
 |true=>rfl
 |false=>rw[a3I q]at h;cases h
def a3J(h:v7 kvs k=false):n8 kvs k d=kvs++[(k,d)]:=by unfold n8;rw[h];rfl
def T9{es:List (D×V×V)}{ds:List D}{k d:D}{kv v:V}(hl:ds.length=es.length):((es++[(k,kv,v)]).map (·.1)).zip (ds++[d])=(es.map (·.1)).zip ds++[(k,d)]:=by
 rw[aT,oO (by rw[ar];exact hl.symm)];rfl
theorem M4{v:V}:∀{es:List (D×V×V)} {ds:List D} {j:Nat} {e:D×V×V},ds.length=es.length→(∀e∈es,aJ e.1 k=true↔e.1=k)→(es.map (·.1)).Nodup→es[j]?=el e→e.1=k→
  ((es.map (·.1)).zip ds).map (λp=>if aJ p.1 k then (p.1,d) else p)=(es.map (·.1)).zip (ds.set j d)
 |[],ds,j,e,_,_,_,he,_=>by simp at he
 |e0::es,[],j,e,h,_,_,_,_=>by simp at h
 |e0::es,d0::ds,0,e,h,hk,hn,he,fH=>by
  cases he
  rw[aA,bt]at hn;have h0:aJ e0.1 k=true:=(hk _ aj).mpr fH;have jq:((es.map (·.1)).zip ds).map (λp=>if aJ p.1 k then (p.1,d) else p)=(es.map (·.1)).zip ds:=by
   have:∀p∈(es.map (·.1)).zip ds,(if aJ p.1 k then (p.1,d) else p)=p:=λp hp=>by
    rw[aI];intro q;have hm:=(gU hp).1;obtain⟨e',kL,hq⟩:=aY.mp hm;have CT:e'.1=p.1:=hq;rw[←CT]at q;exact hn.1 (by rw[fH,←(hk e' (aq _ kL)).mp q];exact bG kL)
   rw[cD this,gD]
  simp only[aA,dZ,mw,aB h0,jq]
 |e0::es,d0::ds,j+1,e,h,hk,hn,he,fH=>by
  rw[aA,bt]at hn;have kL:es[j]?=el e:=by simpa using he
  have ih:=M4 (k:=k) (d:=d) (v:=v) (ds:=ds) (by simpa using h) (λe he=>hk e (aq _ he)) hn.2 kL fH;have gj:¬ aJ e0.1 k=true:=λq=>hn.1 (by rw[(hk _ aj).mp q,←fH];exact bG (bo kL))
  simp only[aA,dZ,jA,aI gj,ih]
section
variable {K:ag}{H:Hp}{F:List au}
theorem Own.dict(h:Own K H F (.d kt u) v d fp):∃a es ds fs,v=.ref a∧H a=el (c6 a es)∧d=.dict ((es.map (·.1)).zip ds)∧fp=a::fs∧(∀e∈es,keyOk kt e.1∧Den K (cut H F) e.2.1 e.1)∧ListAll (Own K H F u) (es.map (·.2.2)) ds fs∧ds.length=es.length∧(es.map (·.1)).Nodup:=by
 simp only[Own]at h;obtain⟨a,es,ds,fs,h1,h2,h3,h4,h5,h6⟩:=h;exact⟨a,es,ds,fs,h1,h2,h3,h4,h5.2,h6,by have:=h6.length;rw[ar]at this;exact this.symm,h5.1⟩
end
section
variable {X:Cx}{M:List Md}{a b e:Expr}{fa fb:EvE}{ca cb:Cat}{kt:Bool}{u:Ty}{pos:ff}
def keysAt(h:∀e∈es,keyOk kt e.1∧Den X.K (cut H F) e.2.1 e.1)(hk:m9 kt k=true)(hd:Den X.K H kv k):KeysAt X H kt es k kv:=
 ⟨λe he=>⟨(h e he).1,(h e he).2.up i7⟩,v5 hk,hd⟩
def a3n(X:Cx)(neg:Bool):R2:=λx y H Q=>∃a es kt k,y=.ref a∧H a=el (c6 a es)∧KeysAt X H kt es k x∧Q (.bl (neg !=r8 es k)) H
def Y7(hu:X.A.units+64<cV):OpR X (bS .In) (a3n X false):=by
 intro pins s σ H x y v w Q I rx ry h;obtain⟨a,es,kt,k,rfl,hH,K,q⟩:=h;cases (show w=aW a from ry)
 exact b9b (by lia) I hH K rx λs' I'=>⟨.bl _,H,I',rfl,by simpa using q⟩
def V6(hu:X.A.units+64<cV):OpR X (bS .NotIn) (a3n X true):=by
 intro pins s σ H x y v w Q I rx ry h;obtain⟨a,es,kt,k,rfl,hH,K,q⟩:=h;cases (show w=aW a from ry)
 exact b1D (by lia) I hH K rx λs' I'=>⟨.bl _,H,I',rfl,by simpa using q⟩
def a5H(h:dIn neg kt k d=el r):∃kvs,d=.dict kvs∧m9 kt k=true∧r=.bool (neg !=v7 kvs k):=by
 cases d with
 |dict kvs=>
  have h':(if m9 kt k then el (df (neg !=v7 kvs k)) else p4)=el r:=h;by_cases c:m9 kt k=true
  ·rw[aB c]at h';exact⟨kvs,rfl,c,(aK h').symm⟩
  ·rw[aI c]at h';cases h'
 |_=>cases h
def b4i(ho:OpR X (bS op) (a3n X neg))(ha:PX X M a fa ca)(hb:PX X M b fb (.bor (.d kt u)))(S:StE X.K M ρ σ H P F)(e1:Same H H1)(e2:Same H1 H2)
  (r1:ResR X.K ca H H1 F v k) (r2:ResR X.K (.bor (.d kt u)) H1 H2 F w d) (hr:dIn neg kt k d=el r) (q:Q (.bl (match r with|.bool b=>b|_=>false)) H2):a3n X neg v w H2 Q:=by
 obtain⟨kvs,rfl,hk,rfl⟩:=a5H hr;obtain⟨fp,o,_⟩:=r2;obtain⟨p,es,ds,fs,rfl,hH,hd,_,h5,_,hl,_⟩:=o.dict;cases hd
 refine⟨p,es,kt,k,rfl,hH,keysAt h5 hk (r1.den.up e2),?_⟩;rw[←v8 hl];exact q
def b7j(ho:OpR X (bS op) (a3n X neg))(ha:PX X M a fa ca)(hb:PX X M b fb (.bor (.d kt u)))(hm:eE op b=false:=by first|exact Y4 _|with_unfolding_all rfl):PTX X M (.Compare a [op] [b] pos) (tB (e2 (dIn neg kt) fa fb)):=by
 obtain⟨ta,pa,qa⟩:=ha.out;obtain⟨tb,pb,qb⟩:=hb.out;refine .mk ⟨_,Z9 ho pa pb hm,λρ σ H P F k Q S hf q=>?_⟩;obtain⟨d,hf,hk⟩:=bnd hf;cases K6 hk
 obtain⟨x,y,h1,h2,h3⟩:=A6 hf;exact qa ρ σ H P F x _ S h1 λv H1 e1 r1=>qb ρ σ H1 P F y _ (S.grow e1) h2 λw H2 e2 r2=>b4i ho ha hb S e1 e2 r1 r2 h3 ⟨k,rfl,q H2 (e1.trans e2)⟩
def c0t(X:Cx)(td ty:TE):TE:=λσ H Q=>td σ H λx H1=>ty σ H1 λy H2=>∃a es kt k,x=.ref a∧H2 a=el (c6 a es)∧KeysAt X H2 kt es k y∧r8 es k=true∧∀e∈es,e.1=k→Q e.2.2 H2
def b1E(hu:X.A.units+64<cV)(ho:PE X a td)(hi:PE X b ty)(hs:a3H b):PE X (.Subscript a b pos) (c0t X td ty):=by
 intro pins s σ H Q I h;refine b9a qD.lookup hs (L2.thn (ho pins s σ H _ I h) λu s1 ⟨x,H1,I1,rx,q1⟩=>L2.thn (hi pins s1 σ H1 _ I1 q1) λiv s2 ⟨y,H2,I2,ry,p,es,kt,k,ex,hH,K,hh,q2⟩=>?_);subst ex;obtain rfl:u=aW p:=rx;exact⟨j6 I2 hH,a2q (by lia) I2 hH K ry hh λe he fH x s3 I3 r3=>⟨e.2.2,H2,I3,r3,q2 e he fH⟩⟩
def a9z(h:a9y kt d k=el r):∃kvs,d=.dict kvs∧m9 kt k=true∧y7 kvs k=el r:=by
 cases d with
 |dict kvs=>
  have h':(if m9 kt k then y7 kvs k else p4)=el r:=h;by_cases c:m9 kt k=true
  ·rw[aB c]at h';exact⟨kvs,rfl,c,h'⟩
  ·rw[aI c]at h';cases h'
 |_=>cases h
def b7k{es:List (D×V×V)}{ds:List D}{e:D×V×V}(h6:ListAll (Own X.K H F u) (es.map (·.2.2)) ds fs)(hl:ds.length=es.length)(hn:(es.map (·.1)).Nodup)(K:KeysAt X H kt es k kv)(he:e∈es)(fH:e.1=k) :
  ∃(j:Nat) (d:D) (f:List au),es[j]?=el e∧ds[j]?=el d∧y7 ((es.map (·.1)).zip ds) k=el d∧Own X.K H F u e.2.2 d f∧∀x∈f,x∈fs:=by
 obtain⟨j,hj⟩:=bM.mp he;have hW:j<ds.length:=by rw[hl];exact (aP.mp hj).1
 obtain⟨w,f,pre,post,z1,z2,z3,_⟩:=h6.at_ (ak hW);rw[aU,hj]at z1;cases z1
 refine⟨j,ds[j],f,hj,ak hW,a0l hl (λe he=>K.eqv he) hn hj fH (ak hW),z2,λx hx=>?_⟩;rw[z3];exact ax _ (aL _ hx)
end
section
variable {X:Cx}{M:List Md}{a b e o:Expr}{es:List Expr}{fa fb:EvE}{ca cb:Cat}{kt:Bool}{u:Ty}{pos apos cH:ff}{to:TE}{t:TA}{name:bC}{id:String}{r:V→List V→Hp→VK→Prop}
def b7l(hu:X.A.units+64<cV)(ha:PX X M a fa (.bor (.d kt u)))(hb:PX X M b fb cb)(hs:a3H b:=by exact λ_ _=>rfl):PX X M (.Subscript a b pos) (e2 (a9y kt) fa fb) (.bor u):=by
 obtain⟨ta,pa,qa⟩:=ha.out;obtain⟨tb,pb,qb⟩:=hb.out;refine .mk ⟨_,b1E hu pa pb hs,λρ σ H P F d Q S hf q=>?_⟩;obtain⟨x,y,h1,h2,h3⟩:=A6 hf;obtain⟨kvs,rfl,hk,hg⟩:=a9z h3;refine qa ρ σ H P F _ _ S h1 λv H1 e1 ⟨fp,o,sub⟩=>qb ρ σ H1 P F y _ (S.grow e1) h2 λw H2 e2 r2=>?_
 obtain⟨p,es,ds,fs,rfl,hH,hd,rfl,h5,h6,hl,hn⟩:=(o.grow e2).dict;cases hd
 have K:=keysAt (X:=X) h5 hk r2.den;refine⟨p,es,kt,y,rfl,hH,K,by rw[←v8 hl];exact a0m hg,λe he fH=>?_⟩;obtain⟨j,d',f,_,_,g',o',s'⟩:=b7k h6 hl hn K he fH;rw[hg]at g';cases g'
 exact q _ H2 (e1.trans e2) ⟨f,o',λx hx=>sub x (aq _ (s' x hx))⟩
def c0u(r:V→List V→Hp→VK→Prop)(to:TE)(t:TA):TE:=λσ H Q=>to σ H λx H1=>(∃p es,x=.ref p∧H1 p=el (c6 p es))∧t σ H1 λxs H2=>r x xs H2 Q
def a7g(slot:Slot "dict" name id)(uX:typeOf (.builtin id)=pure (.type "method_descriptor"))(hm:MtR X id r)(ho:PE X o to)(ha:PA X (e::es) t)
  (eK:dc o name X.env (cy o X.env)=cy o X.env:=by rfl)
  (kq:((cx cH (aw (e::es) X.env)).all (λx=>!x.1)&&(mV cH (jn [] X.env)).all (λx=>x.1.isSome)
   && decide ((e::es).length+([]:List hJ).length+(if ([]:List hJ).isEmpty then 0 else 1)<30))=true:=by rfl)
  (eJ:(apos.endLine==cH.line)=true:=by rfl) (hs:aw (e::es) X.env=(false,cy e X.env)::aw es X.env:=by rfl) (gI:(cx cH (aw es X.env)).any (·.1)=false:=by rfl) :
  PE X (.Call (.Attribute o name apos) (e::es) [] cH) (c0u r to t):=by
 intro pins s σ H Q I h;refine BC eK kq eJ rfl (L2.thn (ho pins s σ H _ I h) λv s1 ⟨x,H1,I1,r1,⟨p,FY,ex,hH⟩,q1⟩=>?_);subst ex;obtain rfl:v=aW p:=r1;refine⟨"dict",id,h_,slot,uX,j6 I1 hH,J4 I1 hH,?_⟩;have hA:=ha cH pins s1 σ H1 _ I1 q1;rw[hs]at hA ⊢;refine fg (by show (false||(cx cH (aw es X.env)).any (·.1))=false;rw[gI]<;>rfl) (nr ?_);exact L2.thn hA λus s2 ⟨vs,H2,I2,r2,q2⟩=>hm pins s2 σ H2 (.ref p) vs (.ref p) us Q I2 rfl r2 q2
def a9A:CallR X (.builtin "len") (λxs H Q=>∃p es,xs=[V.ref p]∧H p=el (c6 p es)∧Q (.int es.length) H):=by
 intro pins s σ H xs us Q I rv h;obtain⟨p,es,rfl,hH,q⟩:=h;obtain⟨w,rfl,rw⟩:=rv.one;cases (show w=aW p from rw)
 exact b7i I hH λt s' I'=>⟨.int es.length,H,I',⟨t,rfl⟩,q⟩
def a1q(h:bN)(hb:cR<h.objs.size):ObjOk P w H (h.push {cls:=.type "dict",data:=.dict #[]}) h.objs.size (c6 h.objs.size []):=
 V5 (gJ.mpr (dN (a_ hb))) (bI _) bA (aE _ rfl) ⟨rfl,rfl,rfl⟩ rfl (λ_=>rfl) .nil
def a5I:PE X (.Dict [] [] pos) (λ_ H Q=>∀p,H p=p4→Q (.ref p) (upd H p (c6 p []))):=λpins s σ H Q I h=>
 wpAny_Dict_empty ⟨.ref s.heap.objs.size,_,I.laid (a:=s.heap.objs.size) (o:=c6 s.heap.objs.size []) (t':=s.toks) (λ_ _ q=>af _ q) (aD _) (a1q s.heap I.sysBelow),rfl,h _ (I.hok.fresh (aD _))⟩
def O4(kt:Bool)(u:Ty):PX X M (.Dict [] [] pos) (eC (.dict [])) (.new (.d kt u)):=by
 refine .mk ⟨_,a5I,λρ σ H P F d Q S hf q=>?_⟩;cases hf
 intro p hp;refine q _ _ (k6 hp _) ⟨[p],?_,by simp,λa ha=>by rw[ao.mp ha];exact hp⟩;simp only[Own];exact⟨p,[],[],[],rfl,i6,rfl,rfl,⟨bA,λe he=>(nomatch he)⟩,m3⟩
end
section
variable {K:ag}{H:Hp}{F:List au}
theorem StE.dict(S:StE K M ρ σ H P F)(hm:M[i]?=el (.own (.d kt u))) :
  ∃a es ds fs,σ[i]?=el (el (.ref a))∧H a=el (c6 a es)∧ρ.getD i .none=.dict ((es.map (·.1)).zip ds)∧(∀e∈es,keyOk kt e.1∧Den K (cut H F) e.2.1 e.1)∧ListAll (Own K H F u) (es.map (·.2.2)) ds fs∧ds.length=es.length∧(es.map (·.1)).Nodup:=by
 obtain⟨v,f,h1,o,_⟩:=S.get hm;obtain⟨a,es,ds,fs,rfl,h2,h3,_,h5,h6,h7,h8⟩:=o.dict;exact⟨a,es,ds,fs,h1,h2,h3,h5,h6,h7,h8⟩
theorem a2r:∀{es:List (D×V×V)} {j:Nat} {e:D×V×V},(es.map (·.1)).Nodup→(∀e∈es,aJ e.1 k=true↔e.1=k)→es[j]?=el e→e.1=k→(es.map λe=>if aJ e.1 k then (e.1,e.2.1,v) else e).map (·.2.2)=(es.map (·.2.2)).set j v
 |[],j,e,_,_,hj,_=>by simp at hj
 |e0::es,0,e,hn,iA,hj,fH=>by
  rw[aA,bt]at hn;cases hj
  have jq:es.map (λe=>if aJ e.1 k then (e.1,e.2.1,v) else e)=es:=by
   have:∀e'∈es,(if aJ e'.1 k then (e'.1,e'.2.1,v) else e')=e':=λe' kL=>by
    rw[aI];intro q;exact hn.1 (by rw[fH,←(iA e' (aq _ kL)).mp q];exact bG kL)
   rw[cD this,gD]
  rw[aA,aB ((iA _ aj).mpr fH),jq];rfl
 |e0::es,j+1,e,hn,iA,hj,fH=>by
  rw[aA,bt]at hn;have As:es[j]?=el e:=by simpa using hj
  have gj:¬ aJ e0.1 k=true:=λq=>hn.1 (by rw[(iA _ aj).mp q,←fH];exact bG (bo As))
  rw[aA,aI gj,aA,aA,jA,a2r hn.2 (λe he=>iA e (aq _ he)) As fH]
def Pend.dput(h:Pend K ([]++[.own u]) ([]++[d]) ([]++[el v]) M ρ σ H P F)(hm:M[i]?=el (.own (.d kt u)))(hk:keyOk kt k)(vk:Den K H kv k) :
  ∃a es ds fs,σ[i]?=el (el (.ref a))∧H a=el (c6 a es)∧ρ.getD i .none=.dict ((es.map (·.1)).zip ds)∧(∀e∈es,keyOk kt e.1∧Den K (cut H F) e.2.1 e.1)∧ListAll (Own K H F u) (es.map (·.2.2)) ds fs∧ds.length=es.length∧(es.map (·.1)).Nodup∧
   StR K M (ρ.set i (.dict (n8 ((es.map (·.1)).zip ds) k d))) σ (upd H a (c6 a (O3 es k kv v))) P F:=by
 obtain⟨_,_,S⟩:=h;obtain⟨G,h1,h2,h3⟩:=S.all;have lx:StAll K H F (.own u::M) (d::ρ) (el v::σ) G:=by simpa using h1
 simp only[StAll]at lx;obtain⟨d',ρ',o',σ',fv,G2,e1,e2,rfl,⟨v',e3,ov⟩,h5⟩:=lx;cases e1
 cases e2
 cases e3
 obtain⟨dd,oo,f,pre,post,q1,q2,⟨v2,rfl,q3⟩,rfl,q5⟩:=h5.at_ hm;obtain⟨a,es,ds,fs,rfl,r2,r3,rfl,r5,r6,hl,hn⟩:=q3.dict;have nv:a∈F:=h3 a (by simp);have fB:∀o,Same (cut H F) (cut (upd H a o) F):=λo b o' hb=>by
  obtain⟨n1,n2⟩:=o6 hb;exact j5 n1 (by rw[f7 (show b≠a from λz=>n1 (z▸nv))];exact n2)
 have cnt:∀b,b=a→(pre++post).count b=0∧fs.count b=0∧fv.count b=0:=λb e=>by
  subst e;have:=cI.mp h2 b;simp only[bc,bx,gy]at this ⊢;exact⟨by lia,by lia,by lia⟩
 have kk:∀(l:List au) (o:HO),(∀b,b=a→l.count b=0)→∀b∈l,upd H a o b=H b:=λl o hc b hb=>f7 λz=>by
  have:=hc b z;rw[dH]at this;exact this hb
 have vm:Den K (cut H F) kv k:=vk.imm_out S.lst k (T3 _ hk.1);have iA:∀e∈es,aJ e.1 k=true↔e.1=k:=λe he=>A1 e.1 k (r5 e he).1.1 hk.1
 have fin:∀(eX:List (D×V×V)) (iw:List D) (jZ:List au),(eX.map (·.1)).Nodup→(∀e∈eX,keyOk kt e.1∧Den K (cut H F) e.2.1 e.1)→ListAll (Own K (upd H a (c6 a eX)) F u) (eX.map (·.2.2)) iw jZ→(∀b,jZ.count b≤fs.count b+fv.count b)→
   StR K M (ρ.set i (.dict ((eX.map (·.1)).zip iw))) σ (upd H a (c6 a eX)) P F:=λeX iw jZ sU oU ha nN=>by
  have o1:Own K (upd H a (c6 a eX)) F (.d kt u) (.ref a) (.dict ((eX.map (·.1)).zip iw)) (a::jZ):=by
   simp only[Own];exact⟨a,eX,iw,jZ,rfl,i6,rfl,rfl,⟨sU,λe he=>⟨(oU e he).1,(oU e he).2.up (fB _)⟩⟩,ha⟩
  have q:=q5 (upd H a (c6 a eX)) F (.own (.d kt u)) (.dict ((eX.map (·.1)).zip iw)) (el (.ref a)) _ (kk _ _ λb e=>(cnt b e).1) (fB _) ⟨_,rfl,o1⟩;rw[set_same (l:=σ) q2,set_same (l:=M) hm]at q;refine⟨⟨_,q,O0 h2 λb=>?_,λb hb=>?_⟩,λb hb=>?_,S.prot.trans (fB _)⟩
  ·have:=nN b;simp only[bc,bx,du];lia
  ·have hc:0<(fv++(pre++(a::fs++post))).count b:=by
    have h0:=dm.mpr hb;have:=nN b;simp only[bc,bx,du]at h0 ⊢;lia
   exact h3 b (dm.mp hc)
  ·by_cases e:b=a
   ·subst e;exact⟨⟨c6 b eX,trivial⟩,i6⟩
   ·obtain⟨ys,y⟩:=S.lst b hb;exact⟨ys,by rw[f7 e];exact y⟩
 refine⟨a,es,ds,fs,q2,r2,by rw[z8 q1];exact r3,r5,r6,hl,hn,?_⟩;cases hf:r8 es k with
 |false=>
  rw[a2p hf,a3J (by rw[v8 hl];exact hf),←T9 (kv:=kv) (v:=v) hl];refine fin (es++[(k,kv,v)]) (ds++[d]) (fs++fv) ?_ ?_ ?_ λb=>by rw[bc];exact aD _
  ·rw[aT,aZ];refine⟨hn,by simp,λx hx y hy e=>?_⟩;simp only[aA,cU,ao]at hy;subst hy;subst e;obtain⟨e,he,rfl⟩:=aY.mp hx;unfold r8 at hf;rw[cB]at hf;exact hf e he ((iA e he).mpr rfl)
  ·intro e he;rcases aF.mp he with z|z
   ·exact r5 e z
   ·rw[ao.mp z];exact⟨hk,vm⟩
  ·rw[aT];refine (l7 (fB _) r6 (kk _ _ λb e=>(cnt b e).2.1)).append ?_;have:=k9 (R:=Own K (upd H a (c6 a (es++[(k,kv,v)]))) F u) (ov.frame (fB _) u (kk _ _ λb e=>(cnt b e).2.2)) m3
   rwa[bE]at this
 |true=>
  have hh:=hf;unfold r8 at hf;rw[cZ]at hf;obtain⟨e,he,fH⟩:=hf;have pJ:=(iA e he).mp fH;obtain⟨j,hj⟩:=bM.mp he;have ue:j<ds.length:=by rw[hl];exact (aP.mp hj).1
  have nI:O3 es k kv v=es.map λe=>if aJ e.1 k then (e.1,e.2.1,v) else e:=by unfold O3;rw[hh];rfl
  have mP:n8 ((es.map (·.1)).zip ds) k d=(es.map (·.1)).zip (ds.set j d):=by
   unfold n8;rw[v8 hl,hh];exact M4 (v:=v) hl iA hn hj pJ
  have mQ:(O3 es k kv v).map (·.1)=es.map (·.1):=by rw[nI];exact a0k
  rw[mP,←mQ];obtain⟨w3,f3,a1,a2,s1,s2,pV,s4⟩:=r6.zip (ak ue);have pA:(O3 es k kv v).map (·.2.2)=(es.map (·.2.2)).set j v:=by
   rw[nI];exact a2r hn iA hj pJ
  refine fin (O3 es k kv v) (ds.set j d) (a1++(fv++a2)) (by rw[mQ];exact hn) ?_ ?_ λb=>by rw[pV];simp only[bc];lia
  ·intro e' kL;rw[nI]at kL;obtain⟨e0,s_,rfl⟩:=aY.mp kL
   split
   ·exact r5 e0 s_
   ·exact r5 e0 s_
  ·rw[pA];have c5:∀b,b=a→(a1++a2).count b=0:=λb e=>by have:=(cnt b e).2.1;rw[pV]at this;simp only[bc]at this ⊢;lia
   exact s4 _ F v d fv (kk _ _ c5) (fB _) (ov.frame (fB _) u (kk _ _ λb e=>(cnt b e).2.2))
end
noncomputable def B3(i:Nat)(kt:Bool)(fk fv:EvE):EvS:=λρ=>(fv ρ).bind λd=>(fk ρ).bind λk=>match ρ.getD i .none with
 |.dict kvs=>if m9 kt k&&decide (kvs.length<1000000) then el (.nx (ρ.set i (.dict (n8 kvs k d)))) else p4
 |_=>p4
abbrev EvX:=List D→Option (D×List D)
def n6(kvs:List (D×D))(k d:D):List (D×D):=if v7 kvs k then kvs else kvs++[(k,d)]
section
variable {X:Cx}{M M1 ML:List Md}{e k v:Expr}{fk fe fv:EvE}{f:EvX}{ck:Cat}{kt:Bool}{u w:Ty}{pos apos cH iz:ff}
def b5D(X:Cx)(td ty tv:TE):TS:=λD σ H=>tv σ H λv H1=>td σ H1 λx H2=>ty σ H2 λy H3=>∃a es kt k,x=.ref a∧H3 a=el (c6 a es)∧KeysAt X H3 kt es k y∧es.length<aS∧D.nx σ (upd H3 a (c6 a (O3 es k y v)))
def a8n(hu:X.A.units+64<cV)(ho:PE X o td)(hi:PE X k ty)(hv:PE X v tv)(hs:fI v (el (.Subscript o k iz)) pos.line X.env=pure false) :
  PS X (.Assign [.Subscript o k iz] v pos) (b5D X td ty tv):=by
 intro pins s σ H D I h;refine wpAny_Assign_Subscript (L2.thn (hv pins s σ H _ I h) λr s1 ⟨v,H1,I1,rv,q1⟩=>L2.thn (ho pins s1 σ H1 _ I1 q1) λu s2 ⟨x,H2,I2,rx,q2⟩=>L2.thn (hi pins s2 σ H2 _ I2 q2) λiv s3 ⟨y,H3,I3,ry,a,es,kt,k,ex,hH,K,hl,q3⟩=>?_) hs;subst ex;obtain rfl:u=aW a:=rx;exact a7f (by lia) I3 hH K ry rv hl λs4 I4=>⟨σ,_,I4,q3⟩
def a0n(i:Nat)(hu:X.A.units+64<cV)(hk:PX X M1 k fk ck)(hv:PMX X M v fv u M1)(hN:X.N[i]?=el x:=by rfl)(rS:Vis X.env.scope x:=by first|exact cn rfl|exact bY (cn rfl)|exact bY (bY rfl))(hd:(x==("__debug__":bC))=false:=by decide)
  (iJ:(x==("__classdict__":bC))=false:=by decide) (hm:M1[i]?=el (.own (.d kt u)):=by rfl) (hs:fI v (el (.Subscript (.Name x px) k iz)) pos.line X.env=pure false:=by rfl) :
  PSX X w ML M (.Assign [.Subscript (.Name x px) k iz] v pos) (B3 i kt fk fv) M1:=by
 obtain⟨tv,pv,qv⟩:=hv;obtain⟨tk,pk,qk⟩:=hk.out;refine .mk ⟨_,a8n hu (C0 hN rS hd iJ) pk pv hs,λD ρ σ H P F o S hg kk=>?_⟩;obtain⟨d,h1,g1⟩:=bnd hg;obtain⟨y,h2,g2⟩:=bnd g1;refine qv [] [] [] ρ σ H P F d _ S.pend h1 λv1 H1 F1 e1 S1=>?_
 obtain⟨a,es,ds,fs,ha,hH,hρ,_⟩:=S1.e.dict hm;rw[hρ]at g2;have lQ:(if (m9 kt y&&decide (((es.map (·.1)).zip ds).length<1000000))=true then el (Out.nx (ρ.set i (.dict (n8 ((es.map (·.1)).zip ds) y d)))) else p4)=el o:=g2;by_cases c:(m9 kt y&&decide (((es.map (·.1)).zip ds).length<1000000))=true
 ·rw[aB c]at lQ;cases lQ
  rw[av]at c;refine⟨_,ha,qk ρ σ H1 P F1 y _ S1.e h2 λkv H2 e2 r2=>?_⟩;obtain⟨a',eX,iw,jZ,sf,Er,pf,hK,_,pG,_,S3⟩:=(S1.grow e2).dput hm (v5 c.1) r2.den;rw[ha]at sf;cases sf
  rw[hρ]at pf
  injection pf with pf
  refine⟨a,eX,kt,y,rfl,Er,keysAt hK c.1 r2.den,?_,kk σ _ F1 (by rw[pf];exact S3)⟩;have hlen:((eX.map (·.1)).zip iw).length=eX.length:=by rw[dS,ar,pG,kE]
  rw[←hlen,←pf];exact fE (aN c.2) (by rw[cQ];decide)
 ·rw[aI c]at lQ;cases lQ
def b7m(X:Cx):V→List V→Hp→VK→Prop:=λx xs H Q=>∃p es kt k y z,x=.ref p∧xs=[y,z]∧H p=el (c6 p es)∧KeysAt X H kt es k y∧es.length<aS∧(r8 es k=false→Q z (upd H p (c6 p (es++[(k,y,z)]))))∧∀e∈es,e.1=k→Q e.2.2 H
def b4j(hu:X.A.units+64<cV):MtR X "dict.setdefault" (b7m X):=by
 intro pins s σ H x xs v us Q I rx rv h;obtain⟨p,es,kt,k,y,z,rfl,rfl,hH,K,hl,q1,q2⟩:=h;cases (show v=aW p from rx)
 obtain⟨w1,w2,rfl,r1,r2⟩:=vals2 rv;exact b4h (by lia) I hH K r1 r2 hl (λhf s' I'=>⟨z,_,I',r2,q1 hf⟩) λe he fH x s' I' r'=>⟨e.2.2,H,I',r',q2 e he fH⟩
end
def intsOf:List D→Option (List Int)
 |[]=>el []
 |.int i::r=>(intsOf r).map (i::·)
 |_=>p4
theorem C9:∀{ds:List D} {is:List Int},intsOf ds=el is→ds=is.map .int
 |[],is,h=>by cases h;rfl
 |.int i::r,is,h=>by
  obtain⟨js,h1,rfl⟩:=cS.mp (show (intsOf r).map (i::·)=el is from h);rw[aA,←C9 h1]
 |.none::_,_,h|.bool _::_,_,h|.str _::_,_,h|.list _::_,_,h|.tuple _::_,_,h|.dict _::_,_,h=>nomatch h
def Y8(is:List Int):intsOf (is.map .int)=el is:=by
 induction is with
 |nil=>rfl
 |cons i is ih=>show (intsOf (is.map .int)).map (i::·)=_;rw[ih];rfl
section
variable {X:Cx}{M:List Md}{a b e tg:Expr}{fa fb:EvE}{ca cb:Cat}{pos p apos cH:ff}
def a4O(r:jx h us ds as):∀{j:Nat} {u:ah},us[j]?=el u→∃d bs,ds[j]?=el d∧Reads h u d bs:=by
 induction ds generalizing us as with
 |nil=>intro j u hu;cases r;simp at hu
 |cons d ds ih=>
  intro j u hu;cases r with
  |cons r1 r2=>
   cases j with
   |zero=>cases hu;exact⟨_,_,rfl,r1⟩
   |succ j=>exact ih r2 (by simpa using hu)
open Classical in
noncomputable def b4k(h:bN)(d:D)(u:ah):Bool:=decide (∃d' bs,Reads h u d' bs∧d'.canLay0=true∧aJ d' d=true)
def a8o{d e:D}(r:Reads h u e bs)(hl:e.canLay0=true):b4k h d u=aJ e d:=by
 unfold b4k;cases q:aJ e d with
 |true=>exact @aH _ (_) ⟨e,bs,r,hl,q⟩
 |false=>
  refine @aR _ (_) ?_;rintro⟨d',E_,r1,r2,r3⟩;rw[SeqAt.Reads.unique d' e u _ _ r2 r1 r,q]at r3;cases r3
end
def a8p{X:Cx}{pins:List (au×fD)}{σ:L2.St}{H:Hp}{s:ai}{h':bN}{t':Nat}{ch:List au}{T:au}{xs:List V}(I:Inv X pins σ H s)(k:∀b o,b∉ch→s.heap.get? b=el o→h'.get? b=el o)
  (hf:∀b∈ch,Z8 X pins H b) (hT:s.heap.objs.size≤T) (new:ObjOk X.prog X.w (upd H T (.tup xs)) h' T (.tup xs)):Inv X pins σ (upd H T (.tup xs)) {s with heap:=h',toks:=t'}:=by
 have hn:H T=p4:=I.hok.fresh hT;have neT:∀b o,s.heap.get? b=el o→b≠T:=λb o e z=>absurd (bw (aG e) (by rw[z];exact hT)) (dt _)
 have pd:∀b u,H b=el u→b∉ch:=λb u e hb=>by rw[(hf b hb).1]at e;cases e
 refine I.step (g':=s.gens) (d':=s.drawn) (ch:=ch) (λb hb=>⟨(hf b hb).2.2.2.1,(hf b hb).2.1,(hf b hb).2.2.2.2.1,(hf b hb).2.2.2.2.2⟩) (λb o _ _ hc e _=>k b o hc e) (λb o _ _ hc e _=>⟨o.slots,k b o hc e⟩) (λb o _ e n=>by rw[f7 (neT b o e)];exact n)
  (λb o hc e=>⟨o,k b o hc e⟩) (λb ys e=>by rw[f7 (m7 e hn)];exact e) (λb o u e=>by rw[f7 (m7 e hn)];exact e) (λb ps e=>⟨#[],by rw[f7 (m7 e hn),e];simp⟩) (λm hm=>?_) (λb u e=>?_) I.bare
 ·obtain⟨o,es,ep,ho,r⟩:=hm;exact⟨o,es,ep,k _ o (λhb=>(hf _ hb).2.1 rfl) ho,r⟩
 ·by_cases hb:b=T
  ·subst hb;rw[i6]at e;cases e;exact new
  ·rw[f7 hb]at e;refine (I.hok b u e).stay (λc v hc q=>k c v ?_ q) (λc q=>by rw[f7 (m7 q hn)];exact q) λc ys q=>by rw[f7 (m7 q hn)];exact q
   rcases hc with z|z
   ·rw[z];exact pd b u e
   ·exact pd c _ z
def a1M{X:Cx}{pins:List (au×fD)}{σ:L2.St}{H:Hp}{s:ai}{h':bN}{t':Nat}{ch:List au}(I:Inv X pins σ H s)(k:∀b o,b∉ch→s.heap.get? b=el o→h'.get? b=el o)
  (hf:∀b∈ch,Z8 X pins H b):Inv X pins σ H {s with heap:=h',toks:=t'}:=by
 have pd:∀b u,H b=el u→b∉ch:=λb u e hb=>by rw[(hf b hb).1]at e;cases e
 refine I.step (g':=s.gens) (d':=s.drawn) (ch:=ch) (λb hb=>⟨(hf b hb).2.2.2.1,(hf b hb).2.1,(hf b hb).2.2.2.2.1,(hf b hb).2.2.2.2.2⟩) (λb o _ _ hc e _=>k b o hc e) (λb o _ _ hc e _=>⟨o.slots,k b o hc e⟩) (λb o _ e n=>n)
  (λb o hc e=>⟨o,k b o hc e⟩) (λb ys e=>e) (λb o u e=>e) (λb ps e=>⟨#[],by rw[e];simp⟩) (λm hm=>?_) (λb u e=>?_) I.bare
 ·obtain⟨o,es,ep,ho,r⟩:=hm;exact⟨o,es,ep,k _ o (λhb=>(hf _ hb).2.1 rfl) ho,r⟩
 ·refine (I.hok b u e).stay (λc v hc q=>k c v ?_ q) (λc q=>q) λc ys q=>q
  rcases hc with z|z
  ·rw[z];exact pd b u e
  ·exact pd c _ z
def Ite(K:ag)(a:au):It:=
 ⟨λi H=>∃xs x,SqL K H a xs∧xs[i]?=el x,λi H x H'=>∃T y,H T=p4∧H'=upd H T (.tup [.int i,y])∧x=.ref T∧∀xs,SqL K H a xs→xs[i]?=el y,λi H=>∃xs,SqL K H a xs∧xs.length≤i⟩
def a9B{P:br}{w:bL}{K:ag}{elts:List Expr}{kk:Nat}{iz:ff}(a e it:au)(DH:e≠it):Turn P w K (.Tuple elts kk iz) (Ite K a) [e,it] e (λi h=>(∃old,IsEnum h e it i old)∧h.IsListIter it a i) where
 mem:=by simp
 obj:=λi h st b hb=>by
  obtain⟨⟨old,he⟩,o,eo,c,d⟩:=st;rcases az.mp hb with rfl|hb
  ·exact⟨_,he,λv z=>by cases z⟩
  ·cases ao.mp hb
   exact⟨o,eo,λv z=>by rw[d]at z;cases z⟩
 keep:=λi h h' st k=>by
  obtain⟨⟨old,he⟩,hit⟩:=st;exact⟨⟨old,k e (by simp) _ he⟩,hit.at λo x=>k it (by simp) o x⟩
 item:=by
  intro X hP hw hK hc i pins s σ H E I hf st hg;subst hP hw hK;obtain⟨xs,x,hq,hx⟩:=hg;obtain⟨cJ,rv,p,hz⟩:=I.list hq;obtain⟨u,hu,ru⟩:=rv.get hx;obtain⟨⟨old,he⟩,hit⟩:=st;have hle:a≠e:=λz=>by
   obtain⟨o,eo,c,_⟩:=p.isList;rw[z,he]at eo;cases eo
   exact absurd (show dD "enumerate"=dD "list" from c) (by decide)
  have Dr:a≠it:=λz=>by
   obtain⟨o,eo,c,_⟩:=p.isList;obtain⟨o2,EF,c2,_⟩:=hit;rw[z,EF]at eo;cases eo
   rw[c2]at c;exact absurd c (by decide)
  have W:=WalksT.enumerate (prog:=X.prog) (w:=X.w) (A:=X.A) (I.ok.hd hc) e it a DH hle Dr cJ.toArray;have mB:i<cJ.toArray.size:=by
   have:=(aP.mp hu).1;simpa using this
  refine W.item i s _ E mB ⟨⟨old,he⟩,hit,p.isList⟩ λT vals h' tk hP hT sM vK hk=>⟨.ref T,rfl,W.go elts kk iz i T {s with heap:=h',toks:=tk} _ E vK λh2 uZ Aq=>?_⟩
  obtain⟨t,y,hy,rfl⟩:=hP;have ey:y=u:=by
   have h1:cJ[i]?=el y:=by simpa using hy
   rw[hu]at h1;exact (aK h1).symm
  subst ey;have vE:=W.apart i T h' vK;obtain⟨oT,eT,cT⟩:=sM;have hn:H T=p4:=I.hok.fresh hT;have new:ObjOk X.prog X.w (upd H T (.tup [.int i,x])) h2 T (.tup [.int i,x]):=by
   refine⟨by rw[cQ];show 2≤_;decide,[.int i t,y],?_,oT,Aq T oT vE eT,cT⟩;exact .cons ⟨t,rfl⟩ (.cons ru .nil)
  refine⟨.ref T,upd H T (.tup [.int i,x]),a8p (s:=s) (t':=tk) I (λb o hb q=>Aq b o hb (hk b o hb q)) hf hT new,rfl,⟨T,x,hn,rfl,rfl,λys CC=>by rw[I.list_inj CC hq];exact hx⟩,⟨uZ.1,uZ.2.1⟩,λb hb=>?_⟩;rw[f7 (λz=>vE (by rw[←z];exact hb))];exact (hf b hb).1
 done:=by
  intro X hP hw hK hc i pins s σ H E I hf st hg;subst hP hw hK;obtain⟨xs,hq,hx⟩:=hg;obtain⟨cJ,rv,p,hz⟩:=I.list hq;have hl:=rv.length;obtain⟨⟨old,he⟩,hit⟩:=st;exact wpAny_pyNext_enum_end (I.ok.hd hc) he hit p.isList (dw (by simp;lia)) λh' hx=>⟨rfl,a1M (t':=s.toks) I (λb o hb y=>hx b o (λz=>hb (by simp[z])) y) hf⟩
 self:=λ_ _ _ _ _ st h=>by
  obtain⟨⟨old,he⟩,_⟩:=st;exact wpAny_pyIter_enum he h
def L1:List D→Nat→List D
 |[],_=>[]
 |d::ds,k=>.tuple [.int k,d]::L1 ds (k+1)
noncomputable def iEn(a:EvE):EvA:=λρ=>(a ρ).bind λd=>(asL d).bind λds=>el (L1 ds 0)
theorem a2s:∀(ds:List D) (k:Nat),(L1 ds k).length=ds.length
 |[],_=>rfl
 |d::ds,k=>by show (L1 ds (k+1)).length+1=_;rw[a2s ds];rfl
theorem a2t:∀(ds:List D) (k i:Nat) (d:D),ds[i]?=el d→(L1 ds k)[i]?=el (.tuple [.int ((k+i:Nat):Int),d])
 |[],_,i,d,h=>by simp at h
 |d0::ds,k,0,d,h=>by
  have:d0=d:=by simpa using h
  subst this;rfl
 |d0::ds,k,i+1,d,h=>by
  have:=a2t ds (k+1) i d (by simpa using h);show (L1 ds (k+1))[i]?=_;rw[this,mh,Nat.add_comm 1]
section
variable {X:Cx}{M ML:List Md}{a e iter:Expr}{elts:List Expr}{kk:Nat}{iz pos p:ff}{fa:EvE}{ca:Cat}{u:Ty}{body:List gM}{g:EvS}
def c0v(K:ag)(ta:TA):TI:=λσ H R=>ta σ H λvs H1=>∃a xs,vs=[.ref a]∧SqL K H1 a xs∧R (Ite K a) H1
open PyProof.Rows in
def b4l(hg:Gl X "enumerate")(hm:X.mg "enumerate"=p4)(ha:PA X [a] ta)(hs:aw [a] X.env=[(false,cy a X.env)]:=by rfl):PI X (.Tuple elts kk iz) (.Call (.Name "enumerate" p) [a] [] pos) (c0v X.K ta):=by
 intro pins s σ H R I h;refine Call_ (Y3 I hg hm PyProof.Rows.Boot.«enumerate» (eQ (L2.thn (ha pos pins s σ H _ I h) λus s1 ⟨vs,H1,I1,r1,q1⟩=>?_) hs rfl));obtain⟨l,xs,e,hq,q⟩:=q1;subst e;cases r1 with
 |cons r rr=>
  cases rr
  cases (show _=aW l from r)
  obtain⟨cJ,rv,pl,hz⟩:=I1.list hq;refine call_enumerate_list pl.isList λh' he hit hsz hk=>?_
  refine wpAny_pyIter_enum he ?_;refine⟨s1.heap.objs.size+1,[s1.heap.objs.size+1,s1.heap.objs.size],_,_,H1,rfl,I1.kept (t':=s1.toks) hk,a9B l _ _ (Nat.succ_ne_self _),⟨⟨_,he⟩,hit⟩,λb hb=>?_,q⟩;have kn:s1.heap.objs.size≤b:=by
   rcases az.mp hb with z|z
   ·rw[z];exact eU _
   ·rw[ao.mp z];exact aD _
  exact I1.fpOk kn (I1.hok.fresh kn)
noncomputable def b9c(X:Cx)(M:List Md)(tg iter:Expr)(f:EvE):Prop:=
 ∃wi,PI X tg iter wi∧∀(ρ:List D) (σ:L2.St) (H P:Hp) (F:List au) (ds:List D) (R:It→Hp→Prop),StE X.K M ρ σ H P F→f ρ=el (.list ds)→
  (∀a xs H1,Same H H1→(∀H2,Same (cut H1 F) H2→SqL X.K H2 a xs)→DenAll X.K (cut H1 F) xs ds→R (Ite X.K a) H1)→wi σ H R
def c0w(hm:X.mg "enumerate"=p4)(h:PX X M a fa ca)(hc:frozen ca:=by trivial)(hg:Gl X "enumerate":=by rfl)(he:aw [a] X.env=[(false,cy a X.env)]:=by rfl)(nu:aw [a] X.env=(false,cy a X.env)::aw [] X.env:=by rfl) :
  b9c X M (.Tuple elts kk iz) (.Call (.Name "enumerate" p) [a] [] pos) fa:=by
 obtain⟨t,p,q⟩:=h.out;refine⟨_,b4l hg hm (l5 p p0 nu) he,λρ σ H P F ds R S hf k=>?_⟩;refine q ρ σ H P F _ _ S hf λv H1 e1 r1=>?_
 obtain⟨aa,xs,rfl,k1,k2⟩:=(B5 hc r1).list_inv;exact⟨aa,xs,rfl,(T4 k1 i7).l,k _ xs H1 e1 (λH2 e2=>(T4 k1 e2).l) k2⟩
def b7n(h:iI f ρ=el ps):f ρ=el ps:=by
 obtain⟨ds,h1,g1⟩:=bnd h;by_cases c:f6 ds=true
 ·have:(if f6 ds=true then el ds else p4)=el ps:=g1;rw[aB c]at this;rw[h1,this]
 ·have:(if f6 ds=true then el ds else p4)=el ps:=g1;rw[aI c]at this;cases this
def b4m{set:List D→D→Option (List D)}{m:D→Prop}(hc:X.calm=true)(hp:nD (aV X.prog X.w) X.A X.env X.xe)(hi:b9c X M tg iter fa)(hg:PG X tg gt)(hs:a9s X.K M MB gt set m)(hm:∀ρ ds,fi ρ=el ds→∀d∈ds,m d)(vt:∀{ρ ps},fi ρ=el ps→iEn fa ρ=el ps)(hb:PSsX X u M MB body g M)
  (hf:∀x,eS iter X.env x=pure x:=by intro _;rfl):PSX X u ML M (.For tg iter body [] pos) (E1 fi set g) M:=by
 obtain⟨wi,pi,qi⟩:=hi;obtain⟨tb,pb,qb⟩:=hb.out;refine .mk ⟨_,a6I hp hc pi hg pb hf,λD ρ σ H P F o S sY k=>?_⟩;obtain⟨ps,h1,g1⟩:=bnd sY;obtain⟨d0,h2,g2⟩:=bnd (vt h1);obtain⟨ds,h3,g3⟩:=bnd g2;cases G0 h3
 have rV:L1 ds 0=ps:=aK g3;refine qi ρ σ H P F ds _ S.toE h2 λa xs H1 e1 sO hx=>?_
 have S1:=S.grow e1;have qS:=hx.length;have fJ:ps.length=ds.length:=by rw[←rV,a2s]
 refine⟨λi n σ' H'=>n=xs.length-i∧i≤xs.length∧∃ρ' F',StR X.K M ρ' σ' H' (cut H1 F) F'∧O1 set g (ps.drop i) ρ'=el o,⟨xs.length,by simp,bI _,ρ,F,⟨S1.all,S1.lst,Same.refl _⟩,g1⟩,?_⟩;rintro i n σ' H' ⟨rfl,hi,ρ',F',S',hfl⟩;have kG:Same (cut H1 F) (cut H' F'):=S'.prot;have q:=sO H' (kG.trans i7);by_cases hW:i<xs.length
 ·refine .inr ⟨⟨xs,xs[i],q,ak hW⟩,λσ2 H2=>∃ρ2 F2,StR X.K M ρ2 σ2 H2 (cut H1 F) F2∧O1 set g (ps.drop (i+1)) ρ2=el o,λσ2 H2 ⟨ρ2,F2,S2,h2⟩=>⟨xs.length-(i+1),by lia,rfl,hW,ρ2,F2,S2,h2⟩,λx H2 hy=>?_⟩;obtain⟨T,y,hT,rfl,rfl,xM⟩:=hy;have rR:=xM xs q;have mB:i<ps.length:=by lia
  have lj:ps.drop i=ps[i]::ps.drop (i+1):=fw mB;rw[lj]at hfl;obtain⟨ρ1,sN,g4⟩:=bnd (show (set ρ' ps[i]).bind _=el o from hfl);obtain⟨o1,hg1,g5⟩:=bnd g4;obtain⟨d',pL,ti⟩:=(hx.up kG).getV rR;have pE:ps[i]=.tuple [.int (i:Nat),d']:=by
   have:=a2t ds 0 i d' pL;rw[rV,ak mB,Nat.zero_add]at this;exact aK this
  have mU:Same H' (upd H' T (.tup [.int i,y])):=k6 hT _;have S2:=S'.grow mU;have yT:T∉F':=λz=>by
   obtain⟨ys,e⟩:=S'.lst T z;rw[hT]at e;cases e
  have pM:Den X.K (cut (upd H' T (.tup [.int i,y])) F') (.ref T) (.tuple [.int (i:Nat),d']):=by
   have md:Same (cut H' F') (cut (upd H' T (.tup [.int i,y])) F'):=A2 mU;have hd2:=ti.up md;have jr:cut (upd H' T (.tup [.int i,y])) F' T=el (.tup [.int i,y]):=j5 yT i6;simp only[Den];exact⟨T,[.int i,y],rfl,SqT.of jr,denAll_cons den_int (denAll_cons hd2 denAll_nil)⟩
  rw[pE]at sN;refine hs ρ' σ' _ (cut H1 F) F' (.ref T) _ ρ1 _ S2 pM (hm ρ ps h1 _ (by rw[←pE];exact cG mB)) sN λσ3 F3 S3=>qb _ ρ1 σ3 _ (cut H1 F) F3 o1 S3 hg1 ?_
  cases o1 with
  |nx ρ2=>exact λσ4 H4 F4 S4=>⟨ρ2,F4,S4,g5⟩
  |ct ρ2=>exact λσ4 H4 F4 S4=>⟨ρ2,F4,S4,g5⟩
  |bk ρ2=>
   have:o=.nx ρ2:=(aK g5).symm;subst this;exact λσ4 H4 F4 S4=>k σ4 H4 F4 ⟨S4.all,S4.lst,S1.prot.trans S4.prot⟩
  |rt d=>
   have:o=.rt d:=(aK g5).symm;subst this;refine λv H4 fp o nd fr e=>k v H4 fp o nd (λa ha=>?_) (S1.prot.trans e)
   exact S1.prot.free (fr a ha)
 ·have e:i=xs.length:=by lia
  subst e;rw[qS,←fJ,kl]at hfl;have:o=.nx ρ':=(aK hfl).symm;subst this;exact .inl ⟨⟨xs,q,aD _⟩,k σ' H' F' ⟨S'.all,S'.lst,S1.prot.trans S'.prot⟩⟩
end
section
variable {X:Cx}{M:List Md}{a b:Expr}{fa fb:EvE}{ca cb:Cat}{pos p:ff}
def b1F:D→D→Option D
 |.tuple ds,.tuple es=>if (!ds.isEmpty&&decide (ds.length+es.length≤1000000))=true then W9 (.tuple (ds++es)) else p4
 |_,_=>p4
def a7h(h:b1F x y=el d):∃ds es,x=.tuple ds∧y=.tuple es∧ds≠[]∧ds.length+es.length≤1000000∧d=.tuple (ds++es)∧imm d=true:=by
 cases x with
 |tuple ds=>
  cases y with
  |tuple es=>
   have h':(if (!ds.isEmpty&&decide (ds.length+es.length≤1000000))=true then W9 (.tuple (ds++es)) else p4)=el d:=h;by_cases c:(!ds.isEmpty&&decide (ds.length+es.length≤1000000))=true
   ·rw[aB c]at h';obtain⟨e1,e2⟩:=N8 h';rw[av]at c;exact⟨ds,es,rfl,rfl,λz=>by rw[z]at c;simp at c,aN c.2,e1,by rw[e1];exact e2⟩
   ·rw[aI c]at h';cases h'
  |_=>cases h
 |_=>cases h
end
def insI(n:Int):List Int→List Int
 |[]=>[n]
 |m::ms=>if n≤m then n::m::ms else m::insI n ms
def srt:List Int→List Int
 |[]=>[]
 |n::ns=>insI n (srt ns)
theorem insI_perm(n:Int):∀ms,(insI n ms).Perm (n::ms)
 |[]=>et _
 |m::ms=>by
  unfold insI;by_cases c:n≤m
  ·rw[aB c]
  ·rw[aI c];exact ((insI_perm n ms).cons m).trans (qf n m ms)
theorem G5:∀ns,(srt ns).Perm ns
 |[]=>et _
 |n::ns=>(insI_perm n (srt ns)).trans ((G5 ns).cons n)
theorem a1r(n:Int):∀ms:List Int,ms.Pairwise (·≤·)→(insI n ms).Pairwise (·≤·)
 |[],_=>sA ..
 |m::ms,h=>by
  unfold insI;obtain⟨h1,h2⟩:=d_.mp h;by_cases c:n≤m
  ·rw[aB c];refine d_.mpr ⟨λx hx=>?_,h⟩;rcases az.mp hx with z|z
   ·rw[z];exact c
   ·have:=h1 x z;lia
  ·rw[aI c];refine d_.mpr ⟨λx hx=>?_,a1r n ms h2⟩;rcases az.mp ((insI_perm n ms).mem_iff.mp hx) with z|z
   ·lia
   ·exact h1 x z
theorem Q4:∀ns:List Int,(srt ns).Pairwise (·≤·)
 |[]=>ik
 |n::ns=>a1r n _ (Q4 ns)
def a5J{a b:List Int}(hp:a.Perm b)(ha:a.Pairwise (·≤·)):a=srt b:=
 rE (λx y _ _ h1 h2=>Int.le_antisymm h1 h2) ha (Q4 b) (hp.trans (G5 b).symm)
theorem vals_ints:∀{vs:List ah} {ns:List Int},vZ vs ns→Vals (ns.map V.int) vs
 |_,_,.nil=>.nil
 |_,_,.cons n t r=>.cons ⟨t,rfl⟩ (vals_ints r)
theorem V7:∀{ns:List Int} {vs:List ah},Vals (ns.map V.int) vs→vZ vs ns
 |[],vs,h=>by
  have h':Vals [] vs:=h;cases h'
  exact .nil
 |n::ns,vs,h=>by
  have h':Vals (V.int n::ns.map V.int) vs:=h;cases h' with
  |cons r rr=>
   obtain⟨t,rfl⟩:=r;exact .cons n t (V7 rr)
theorem b4n:∀ns:List Int,f6 (ns.map ay)=true
 |[]=>by simp only[cU,f6]
 |n::ns=>by simp only[aA,f6,imm,b4n ns,fV]
section
variable {X:Cx}{M:List Md}{a:Expr}{fa:EvE}{ca:Cat}{pos p:ff}
open PyProof.Rows in
def a4P:CallR X (.builtin "sorted") (λxs H Q=>∃(p:au) (ns:List Int),xs=[.ref p]∧SqX X.K H p (ns.map V.int)∧ns.length<64∧∀z,H z=p4→Q (.ref z) (upd H z (.lst ((srt ns).map V.int)))):=by
 intro pins s σ H xs us Q I rv h;obtain⟨p,ns,rfl,hp,sj,q⟩:=h;obtain⟨u,rfl,rx⟩:=vals1 rv;cases (show u=aW p from rx)
 obtain⟨_,cJ,n,qg,ho⟩:=hp.ok I;have hl:s.heap.IsList p cJ.toArray:=⟨_,ho,rfl,n,rfl⟩;have hlen:cJ.length=ns.length:=by have:=qg.length;rw[ar]at this;exact this.symm
 refine sorted_ints hl (V7 qg) (by lia) λout zG a1 a2 a3=>?_
 have e:zG=srt ns:=a5J a2 a3;subst e;obtain⟨ee,jr⟩:=sortedAll_at s.heap cJ out;have hn:H (s.heap.objs.size+1)=p4:=I.hok.fresh (eU _);have kW:((srt ns).map V.int).length≤aS:=by
  rw[ar,(G5 ns).length_eq,cQ];lia
 refine⟨.ref (s.heap.objs.size+1),_,I.laid (a:=s.heap.objs.size+1) (o:=.lst ((srt ns).map V.int)) (t':=s.toks) (λb u hb=>sortedAll_old hb) (eU _) ⟨kW,out.toList,ee,vals_ints a1,?_⟩,rfl,q _ hn⟩;rw[iU];exact jr
noncomputable def a3K(a:EvE):EvE:=λρ=>(a ρ).bind λd=>(asL d).bind λds=>(intsOf ds).bind λns=>if ns.length<64 then el (.list ((srt ns).map .int)) else p4
def a9C(hm:X.mg "sorted"=p4)(ha:PX X M a fa ca)(hg:Gl X "sorted":=by rfl)(he:aw [a] X.env=(false,cy a X.env)::aw [] X.env:=by rfl)(fJ:(cx pos (aw [] X.env)).any (·.1)=false:=by rfl) :
  PX X M (.Call (.Name "sorted" p) [a] [] pos) (a3K fa) (.new (.l .i)):=by
 obtain⟨ta,pa,qa⟩:=ha.out;refine .mk ⟨_,K1 a4P hg hm PyProof.Rows.Boot.«sorted» (l5 pa p0 he) (by decide) (by decide) he fJ,λρ σ H P F d Q S hf q=>?_⟩;obtain⟨x,h1,g1⟩:=bnd hf;obtain⟨ds,h2,g2⟩:=bnd g1;obtain⟨ns,h3,g3⟩:=bnd g2;cases G0 h2
 cases C9 h3
 by_cases c:ns.length<64
 ·rw[aB c]at g3;cases g3
  refine qa ρ σ H P F _ _ S h1 λv H1 e1 r1=>?_
  obtain⟨pp,xs,rfl,k1,k2⟩:=r1.den.list_inv;have sI:∀{ns:List Int} {xs:List V},DenAll X.K H1 xs (ns.map .int)→xs=ns.map V.int:=by
   intro ns
   induction ns with
   |nil=>intro xs h;exact h.nil_inv
   |cons n ns ih=>
    intro xs h;obtain⟨v,r,rfl,h1,h2⟩:=h.cons_inv;rw[h1.int_inv,ih h2];rfl
  cases sI k2
  refine⟨pp,ns,rfl,k1,c,λz hz=>q _ _ (e1.trans (k6 hz _)) ?_⟩;refine F5 ?_ (b4n _) e1 hz (S.lst' e1);have:∀ms:List Int,DenAll X.K H1 (ms.map V.int) (ms.map ay):=by
   intro ms
   induction ms with
   |nil=>exact denAll_nil
   |cons m ms ih=>exact denAll_cons den_int ih
  exact this _
 ·rw[aI c]at g3;cases g3
end
def dis(ns:List Int):List Int:=kT (λi=>ns.getD i 0) ns.length
end VS
namespace PySem
open Sem (wp)
set_option maxRecDepth 100000
def Heap.IsValuesView.at{h g1:bN}{v d}(x:h.IsValuesView v d)(e:∀o,h.get? v=el o→g1.get? v=el o):g1.IsValuesView v d:=let⟨o,ho,r⟩:=x;⟨o,e _ ho,r⟩
theorem Heap.IsValuesView.push{h:bN}{v d}(x:h.IsValuesView v d)(o:fD):(h.push o).IsValuesView v d:=x.at λ_ e=>af o e
section
variable {prog:br}{w:bL}{K:Type}[DecidableEq K]{knd:KeyKind prog w K}{A:bD}{E:ah→ai→Prop}{s:ai}
def a9D(hT:s.TypeIs (.ref d) "dict_values")(h:Q false s):aC (aV prog w) A (gH (.ref d)) Q E s:=by
 unfold gH;refine ab (dy hT F.slot_dict_values_len.lookup ?_);generalize Bc:("dict_values.__len__":String)=Cw
 wp_delta
 rw[show splitId Cw=el ("dict_values","__len__") from by subst Bc;decide +kernel];subst Bc;refine ab (fu (T:="dict_values") (b:=true) hT (by rw[mN];kernel_rfl) ?_);refine ej (λoV=>absurd oV (by decide)) (λ_=>?_);refine ej (λ_=>?_) (λoV=>absurd (by decide +kernel) oV);refine ab (gY hT ?_);exact ae h
def b1G(hh:A.handled=p4)(hd:(d==cR)=false)(hm:s.heap.DictAt knd d kvs ep)(hv:s.heap.IsValuesView v d)
  (hsz:kvs.length≤aS) (L0:au) (res:ah) (c₀:Nat) (zl:s.heap.get? L0=el {cls:=.type "list",data:=.seq #[] c₀})
  (kR:∀g1 tq ac cq,(∀b o,b≠L0→s.heap.get? b=el o→g1.get? b=el o)→g1.get? L0=el {cls:=.type "list",dict:=p4,data:=.seq ac cq,slots:=#[]}→
   ItemsOf (λi v=>∃k,kvs[i]?=el (k,v)) ac kvs.length→R (.ok (.ret res)) {s with heap:=g1,toks:=tq}) :
  aC (aV prog w) A.in1 (dq (.ref L0) (.ref v) res)
   (λze sq=>match ze with|.done f=>R (.ok f) sq|.again cq=>cq.quiet=true∧gF (aV prog w) A cq R sq) (λe sq=>R (.error e) sq) s:=by
 have wN:L0≠d:=λe=>by
  obtain⟨o,es,ho,hx,lP,_⟩:=hm;rw[←e,zl]at ho;cases ho
  cases lP
 have yU:L0≠v:=λe=>by
  obtain⟨o,ho,hc,lP⟩:=hv;rw[←e,zl]at ho;cases ho
  cases lP
 have AL:L0≠s.heap.objs.size:=a_ (aG zl);have yK:d≠s.heap.objs.size:=a_ hm.lt_size;have Ee:L0∉[s.heap.objs.size,d]:=λinn=>by
  rcases az.mp inn with e|e
  ·exact AL e
  ·exact wN (ao.mp e)
 have W:=(Walks.dictValues (prog:=prog) (w:=w) (knd:=knd) (A:=A.in1) hh s.heap.objs.size d yK kvs ep).toS;have key:∀(h:bN) (c₁ tq:Nat),h.IsValIter s.heap.objs.size d 0 kvs.length ep→h.DictAt knd d kvs ep→(∀b o,b≠L0→s.heap.get? b=el o→h.get? b=el o)→
   h.get? L0=el {cls:=.type "list",data:=.seq #[] c₁}→gF (aV prog w) A (.builtin "list.extend.loop" ⟨[.ref L0,.ref s.heap.objs.size,res],[]⟩) R {s with heap:=h,toks:=tq}:=by
  intro h c₁ tq hit vy hk uz;refine codeAny_extend_loopS W hsz L0 Ee res kvs.length 0 _ #[] c₁ rfl (bI _) ⟨hit,vy⟩ uz (ItemsOf.nil _) λsq ac cq Am uy pO=>?_
  rw[Moved.eq_with Am];refine kR sq.heap sq.toks ac cq (λb o nb e=>Am.heap b o (λinn=>?_) (hk b o nb e)) uy pO;rcases az.mp inn with e'|inn
  ·exact nb e'
  ·exact absurd (aG e) (by rw[ao.mp inn];exact dt _)
 unfold dq;refine ab (gY (T:="dict_values") hv.typeIs ?_);have h1:il (.ref L0) (.ref v)=false:=by simp[il,yU]
 have h2:(dD "dict_values" == dD "list")=false:=by decide
 have h3:(dD "dict_values" == dD "tuple")=false:=by decide
 simp only[h1,h2,h3,Bool.or_false,cg,dX];refine ab (wpAny_pyIter_values hv hm ?_);refine ab (bJ (a9D ((hv.push _).typeIs) ?_));have uz:=af {cls:=.type "dict_valueiterator",data:=.fields #[.ref d,.int 0 0,.int kvs.length 0,.int ep 0]} zl;have pH:(s.heap.push {cls:=.type "dict_valueiterator",data:=.fields #[.ref d,.int 0 0,.int kvs.length 0,.int ep 0]}).IsValIter s.heap.objs.size d 0 kvs.length ep:=⟨_,aE _ rfl,rfl,rfl⟩;refine ej (λ_=>?_) (λ_=>ae ⟨fm F.plain_extend_loop _,key _ c₀ _ pH (hm.push _) (λb o _ e=>af _ e) uz⟩);refine ab (dW ?_);refine ab ?_;show aC _ _ (qK L0 (·.push .none) >>= λ_=>qK L0 (·.pop)) _ _ _;refine ab (jC uz rfl ?_);have we:=bT (eu (·.push bz)) uz rfl;refine jC (hz:=by seq_fits) we rfl ?_;have Bx:=bT (eu (·.pop)) we rfl;have rest:∀b o,b≠L0→(s.heap.push {cls:=.type "dict_valueiterator",data:=.fields #[.ref d,.int 0 0,.int kvs.length 0,.int ep 0]}).get? b=el o→(((s.heap.push {cls:=.type "dict_valueiterator",data:=.fields #[.ref d,.int 0 0,.int kvs.length 0,.int ep 0]}).update L0 (eu (·.push bz))).update L0 (eu (·.pop))).get? b=el o:=λb o nb e=>(c_ _ _ (dN nb)).trans ((c_ _ _ (dN nb)).trans e)
 exact ae ⟨fm F.plain_extend_loop _,key _ _ _ (pH.at λo e=>rest _ o (dN AL) e) ((hm.push _).at' λo e=>rest _ o (dN wN) e) (λb o nb e=>rest b o nb (af _ e)) Bx⟩
def a9E(hh:A.handled=p4)(hd:(d==cR)=false)(hm:s.heap.DictAt knd d kvs ep)(hv:s.heap.IsValuesView v d)
  (hsz:kvs.length≤aS) (L0:au) (zl:s.heap.get? L0=el {cls:=.type "list",data:=.seq #[]})
  (kR:∀g1 tq ac cq,(∀b o,b≠L0→s.heap.get? b=el o→g1.get? b=el o)→g1.get? L0=el {cls:=.type "list",dict:=p4,data:=.seq ac cq,slots:=#[]}→
   ItemsOf (λi v=>∃k,kvs[i]?=el (k,v)) ac kvs.length→R (.ok (.ret .none)) {s with heap:=g1,toks:=tq}) :
  aC (aV prog w) A.in1 (Builtin.«list.__init__» ⟨[.ref L0,.ref v],[]⟩)
   (λze sq=>match ze with|.done f=>R (.ok f) sq|.again cq=>cq.quiet=true∧gF (aV prog w) A cq R sq) (λe sq=>R (.error e) sq) s:=by
 have wN:L0≠d:=λe=>by
  obtain⟨o,es,ho,hx,lP,_⟩:=hm;rw[←e,zl]at ho;cases ho
  cases lP
 have yU:L0≠v:=λe=>by
  obtain⟨o,ho,hc,lP⟩:=hv;rw[←e,zl]at ho;cases ho
  cases lP
 show aC _ _ (do let old ←Fm (.ref L0);Builtin.List.listUpdate (.ref L0) (λ_=>#[]);letGo old.toList.reverse;dq (.ref L0) (.ref v) .none) _ _ s;refine ab ?_;unfold Fm;refine ab (dI zl rfl (ae ?_));show aC _ _ (qK L0 (λ_=>#[]) >>= λ_=>letGo (#[]:Array ah).toList.reverse >>= λ_=>dq (.ref L0) (.ref v) .none) _ _ s;refine ab (jC zl rfl ?_);have we:=bT (eu (λ_=>(#[]:Array ah))) zl rfl;have rest:∀b o,b≠L0→s.heap.get? b=el o→(s.heap.update L0 (eu (λ_=>(#[]:Array ah)))).get? b=el o:=
  λb o nb e=>(c_ _ _ (dN nb)).trans e
 refine ab (mH ?_);refine b1G hh hd (hm.at' λo e=>rest d o (dN wN) e) (hv.at λo e=>rest v o (dN yU) e) hsz L0 .none _ we λg1 tq ac cq hk uy pO=>?_
 exact kR g1 tq ac cq (λb o nb e=>hk b o nb (rest b o nb e)) uy pO
def a2u(hh:A.handled=p4)(hd:(d==cR)=false)(hm:s.heap.DictAt knd d kvs ep)(hv:s.heap.IsValuesView v d)
  (hsz:kvs.length≤aS)
  (kQ:∀g1 tq ac cq,(∀b o,s.heap.get? b=el o→g1.get? b=el o)→
   g1.get? s.heap.objs.size=el {cls:=.type "list",dict:=p4,data:=.seq ac cq,slots:=#[]}→ItemsOf (λi v=>∃k,kvs[i]?=el (k,v)) ac kvs.length→Q (.ref s.heap.objs.size) {s with heap:=g1,toks:=tq}) :
  aC (aV prog w) A (call (.type "list") [.ref v]) Q E s:=by
 refine vX (Q₁:=λobj s₁=>obj=.ref s.heap.objs.size∧s₁={s with heap:=s.heap.push {cls:=.type "list",data:=.seq #[]}}) F.called_list (F.typeCall_list_1 _) F.entry_list_init
  (code_list_new _ ⟨rfl,rfl⟩) λobj s₁ h₁=>?_
 obtain⟨rfl,rfl⟩:=h₁;have zl:(s.heap.push {cls:=.type "list",data:=.seq #[]}).get? s.heap.objs.size=el {cls:=.type "list",data:=.seq #[]}:=aE _ rfl;refine⟨⟨_,zl,rfl⟩,F.args_list_init_2 _ _,a9E (A:=A.in1) hh hd (hm.push _) (hv.push _) hsz _ zl λg1 tq ac cq hk uy pO=>?_⟩;exact⟨rfl,kQ g1 tq ac cq (λb o e=>hk b o (a_ (aG e)) (af _ e)) uy pO⟩
end
end PySem
namespace VS
open PySem PySem.Spec L2
theorem a0o:∀{xs:List V} {us:List ah},xs.length=us.length→(∀(i:Nat) (x:V) (u:ah),xs[i]?=el x→us[i]?=el u→RelV x u)→Vals xs us
 |[],[],_,_=>.nil
 |[],_::_,h,_=>by simp at h
 |_::_,[],h,_=>by simp at h
 |x::xs,u::us,hl,h=>.cons (h 0 x u rfl rfl) (a0o (by simpa using hl) λi x u h1 h2=>h (i+1) x u (by simpa using h1) (by simpa using h2))
def y8(es:List (D×V×V)):Prop:=∀e∈es,∃n,e.1=.int n∧e.2.1=.int n
def EKv(e:D×V×V)(kv:Int×ah):Prop:=e.1=.int kv.1∧e.2.1=.int kv.1∧RelV e.2.2 kv.2
def a9F(h:eO K2 es l):y8 es→∃kvs:List (Int×ah),Pairs (dh P w) l kvs∧eO EKv es kvs:=by
 induction h with
 |nil=>exact λ_=>⟨[],.nil,.nil⟩
 |@cons e x es l r _ ih=>
  intro hk;obtain⟨kvs,h1,h2⟩:=ih λe he=>hk e (aq _ he)
  obtain⟨n,e1,e2⟩:=hk e aj;obtain⟨hh,jg,sL⟩:=r;rw[e2]at jg;obtain⟨t,ht⟩:=(show ∃t,x.key=gA n t from jg);exact⟨(n,x.val)::kvs,.cons (by rw[ht];simp[dh,ju]) rfl h1,.cons ⟨e1,e2,sL⟩ h2⟩
def b1H(h:eO EKv es kvs):es.map (·.1)=(kvs.map (·.1)).map ay:=by
 induction h with
 |nil=>rfl
 |cons r _ ih=>rw[aA,aA,aA,ih,r.1]
section
variable {X:Cx}{M:List Md}{a o:Expr}{fa:EvE}{ca:Cat}{pos p apos cH:ff}
def Y9(I:Inv X pins σ H s)(hH:H d=el (c6 d es))(hk:y8 es) :
  ∃kvs ep,s.heap.DictAt (dh X.prog X.w) d kvs ep∧(d==cR)=false∧es.length≤aS∧eO EKv es kvs:=by
 obtain⟨h0,hl,hn,o,ents,ep,h1,h2,h3,h4⟩:=m8 I hH;obtain⟨kvs,p1,p2⟩:=a9F (P:=X.prog) (w:=X.w) h4 hk;refine⟨kvs,ep,⟨o,ents,h1,h2,h3,λx hx=>?_,p1,?_⟩,h0,hl,p2⟩
 ·obtain⟨j,hj⟩:=bM.mp (dM.mpr hx);obtain⟨e,he,hh,jg,_⟩:=a1o h4 hj;obtain⟨n,e1,e2⟩:=hk e (bo he);rw[e2]at jg;obtain⟨t,ht⟩:=(show ∃t,x.key=gA n t from jg);exact⟨n,by rw[ht];simp[dh,ju],by rw[hh,e1];rfl⟩
 ·rw[b1H p2]at hn;exact wb ay (λa b h e=>h (by rw[e])) hn
def a3L(v d:au):HO:=.ext λh=>h.IsValuesView v d
def a9G{h':bN}(h:h'.IsValuesView v d):ObjOk P w H' h' v (a3L v d):=
 ⟨h,let⟨o,ho,_⟩:=h;⟨o,ho⟩,λx1 x2 ⟨o,ho,r⟩ hk=>⟨o,hk _ ho,r⟩⟩
def a9H(ho:PE X o to)(eK:dc o "values" X.env (cy o X.env)=cy o X.env:=by rfl)(eJ:(apos.endLine==cH.line)=true:=by rfl) :
  PE X (.Call (.Attribute o "values" apos) [] [] cH) (λσ H Q=>to σ H λx H1=>∃p es,x=.ref p∧H1 p=el (c6 p es)∧y8 es∧∀l,H1 l=p4→Q (.ref l) (upd H1 l (a3L l p))):=by
 intro pins s σ H Q I h;refine ir eK eJ (L2.thn (ho pins s σ H _ I h) λv s1 ⟨x,H1,I1,r1,p,es,ex,hH,hk,q1⟩=>?_);subst ex;obtain rfl:v=aW p:=r1;obtain⟨kvs,ep,jr,h0,hl,hp⟩:=Y9 I1 hH hk;refine⟨"dict","dict.values",h_,gO,rq,j6 I1 hH,J4 I1 hH,fg rfl (ja ?_)⟩;refine EX gO (j6 I1 hH) qF (pZ _) (meets_dict_values (dh X.prog X.w) p h0) ⟨⟨kvs,jr.dictOf⟩,?_⟩;exact⟨.ref s1.heap.objs.size,_,I1.laid (a:=s1.heap.objs.size) (o:=a3L s1.heap.objs.size p) (t':=s1.toks) (λ_ _ q=>af _ q) (aD _) (a9G ⟨_,aE _ rfl,rfl,rfl⟩),rfl,q1 _ (I1.hok.fresh (aD _))⟩
def a7i(hc:X.calm=true):CallR X (.type "list") (λxs H Q=>∃v p es,xs=[.ref v]∧H v=el (a3L v p)∧H p=el (c6 p es)∧y8 es∧∀l,H l=p4→Q (.ref l) (upd H l (.lst (es.map (·.2.2))))):=by
 intro pins s σ H xs us Q I rv h;obtain⟨v,p,es,rfl,hV,hH,hk,q⟩:=h;obtain⟨u,rfl,rx⟩:=vals1 rv;cases (show u=aW v from rx)
 obtain⟨kvs,ep,jr,h0,hl,hp⟩:=Y9 I hH hk;have CL:s.heap.IsValuesView v p:=(show ObjOk X.prog X.w H s.heap v (a3L v p) from I.hok v _ hV).1;have hlen:=cM hp;refine a2u (knd:=dh X.prog X.w) (I.ok.hd hc) h0 jr CL (by lia) λg1 tq ac cq keep ho pO=>?_
 refine⟨.ref s.heap.objs.size,_,I.laid (t':=tq) keep (aD _) (show ObjOk X.prog X.w _ g1 _ (.lst (es.map (·.2.2))) from⟨by rw[ar];exact hl,ac.toList,cq,?_,by rw[iU];exact ho⟩),rfl,q _ (I.hok.fresh (aD _))⟩;refine a0o (by rw[ar];have z1:=pO.1;have z2:ac.toList.length=ac.size:=bW;lia) λi x u h1 h2=>?_
 rw[bR]at h2;obtain⟨k,h3⟩:=pO.2 i u h2;rw[aU]at h1;obtain⟨e,he,rfl⟩:=cS.mp h1;obtain⟨kv,g3,g4⟩:=A4 hp he;rw[h3]at g3;cases g3
 exact g4.2.2
def intKeyed(h:DenKV K H es kvs)(hk:kvs.all (λp=>m9 false p.1)=true):y8 es:=λe he=>by
 have h1:e.1∈kvs.map (·.1):=by rw[←h.keys];exact bG he
 obtain⟨kv,h2,h3⟩:=aY.mp h1;obtain⟨n,hn⟩:=(v5 (bj.mp hk kv h2)).2.2.2 rfl;have hd:=h.kden e he;rw[←h3,hn]at hd;exact⟨n,by rw[←h3,hn],hd.int_inv⟩
noncomputable def a4Q(a:EvE):EvE:=λρ=>(a ρ).bind λd=>match d with
 |.dict kvs=>if kvs.all (λp=>m9 false p.1)&&f6 (kvs.map (·.2)) then el (.list (kvs.map (·.2))) else p4
 |_=>p4
def b1I(hc:X.calm=true)(hm:X.mg "list"=p4)(ha:PX X M a fa ca)(hg:Gl X "list":=by rfl)(eK:dc a "values" X.env (cy a X.env)=cy a X.env:=by rfl)(eJ:(apos.endLine==cH.line)=true:=by rfl)
  (he:aw [.Call (.Attribute a "values" apos) [] [] cH] X.env=(false,cy (.Call (.Attribute a "values" apos) [] [] cH) X.env)::aw [] X.env:=by rfl) (fJ:(cx pos (aw [] X.env)).any (·.1)=false:=by rfl) :
  PX X M (.Call (.Name "list" p) [.Call (.Attribute a "values" apos) [] [] cH] [] pos) (a4Q fa) (.new (.l .i)):=by
 obtain⟨ta,pa,qa⟩:=ha.out;refine .mk ⟨_,J7 (a7i hc) hg hm PyProof.Rows.Boot.«list» (l5 (a9H pa eK eJ) p0 he) (by decide) (by decide) he fJ,λρ σ H P F d Q S hf q=>?_⟩;obtain⟨x,h1,g1⟩:=bnd hf;cases x with
 |dict kvs=>
  have g2:(if kvs.all (λp=>m9 false p.1)&&f6 (kvs.map (·.2)) then el (gP (kvs.map (·.2))) else p4)=el d:=g1;by_cases c:(kvs.all (λp=>m9 false p.1)&&f6 (kvs.map (·.2)))=true
  ·rw[aB c]at g2;cases g2
   rw[av]at c;refine qa ρ σ H P F _ _ S h1 λv H1 e1 r1=>?_
   obtain⟨pp,es,rfl,k1,k2⟩:=r1.den.dict_inv;have hk:=intKeyed k2 c.1;refine⟨pp,es,rfl,k1,hk,λy hy=>?_⟩;have e2:=k6 hy (a3L y pp);refine⟨y,pp,es,rfl,i6,e2 _ _ k1,hk,λz hz=>q _ _ ((e1.trans e2).trans (k6 hz _)) ?_⟩;exact F5 (k2.vals.up e2) c.2 (e1.trans e2) hz (S.lst' (e1.trans e2))
  ·rw[aI c]at g2;cases g2
 |_=>cases g1
end
section
variable {X:Cx}{M:List Md}{e0:Expr}{es:List Expr}{f:EvA}{x:bC}{p pos:ff}
def b1J(W:Has X.prog X.w X.K X.mg X.base x k ps (spD X.K n m .f))(hr:Room k X.A)(h:PAX X M (e0::es) f)(hl:(e0::es).length=n:=by rfl)(hfl:∀ρ ds,f ρ=el ds→ds.length=(e0::es).length)
  (hg:Gl X x:=by rfl) (kM:(x==("__debug__":bC))=false:=by decide) (he:aw (e0::es) X.env=(false,cy e0 X.env)::aw es X.env:=by rfl) (fJ:(cx pos (aw es X.env)).any (·.1)=false:=by rfl) :
  PX X M (.Call (.Name x p) (e0::es) [] pos) (eCl m f) .tmp:=by
 obtain⟨t,pa,qa⟩:=h;refine .mk ⟨_,a4w W hr pa hg kM he fJ,λρ σ H P F d Q S hf q=>?_⟩;obtain⟨ds,h1,hf⟩:=bnd hf;refine qa ρ σ H P F ds _ S h1 λvs H1 e1 r1=>?_
 show spD X.K n m .f (vs++[]) H1 Q E0;rw[bE];refine⟨ds,d,by rw[r1.length,hfl ρ ds h1,hl],r1,hf,λv H' fp e o nd fr=>q v H' (e1.trans e) ?_⟩;simp only[Own]at o;exact o.2.up i7
end
def keysOk(kt:Bool)(kvs:List (D×D)):Bool:=kvs.all λp=>m9 kt p.1
def v9(neg kt:Bool):D→D→Option D
 |k,.dict kvs=>if m9 kt k&&keysOk kt kvs then el (.bool (neg !=v7 kvs k)) else p4
 |_,_=>p4
def X0(kt:Bool):D→D→Option D
 |.dict kvs,k=>if m9 kt k&&keysOk kt kvs then y7 kvs k else p4
 |_,_=>p4
def V8{kvs:List (D×D)}{es:List (D×V×V)}(h:es.map (·.1)=kvs.map (·.1)):v7 kvs k=r8 es k:=by
 have e1:v7 kvs k=(kvs.map (·.1)).any λx=>aJ x k:=by unfold v7;rw[List.any_map];rfl
 have e2:r8 es k=(es.map (·.1)).any λx=>aJ x k:=by unfold r8;rw[List.any_map];rfl
 rw[e1,e2,h]
def b1K{X:Cx}(h:DenKV X.K H es kvs)(ho:keysOk kt kvs=true)(hk:m9 kt k=true)(hd:Den X.K H kv k):KeysAt X H kt es k kv:=by
 refine⟨λe he=>⟨?_,h.kden e he⟩,v5 hk,hd⟩;have hm:e.1∈kvs.map (·.1):=by rw[←h.keys];exact bG he
 obtain⟨p,hp,e1⟩:=aY.mp hm;rw[←e1];exact v5 (bj.mp ho p hp)
section
variable {X:Cx}{M:List Md}{a b:Expr}{fa fb:EvE}{ca cb:Cat}{kt:Bool}{pos:ff}
def a3M(h:v9 neg kt k d=el r):∃kvs,d=.dict kvs∧m9 kt k=true∧keysOk kt kvs=true∧r=.bool (neg !=v7 kvs k):=by
 cases d with
 |dict kvs=>
  have h':(if m9 kt k&&keysOk kt kvs then el (df (neg !=v7 kvs k)) else p4)=el r:=h;by_cases c:(m9 kt k&&keysOk kt kvs)=true
  ·rw[aB c]at h';rw[av]at c;exact⟨kvs,rfl,c.1,c.2,(aK h').symm⟩
  ·rw[aI c]at h';cases h'
 |_=>cases h
def a5K(d1:Den X.K H2 v k)(d2:Den X.K H2 w d)(hr:v9 neg kt k d=el r)(q:Q (.bl (match r with|.bool b=>b|_=>false)) H2):a3n X neg v w H2 Q:=by
 obtain⟨kvs,rfl,hk,ho,rfl⟩:=a3M hr;obtain⟨p,es,rfl,hH,dk⟩:=d2.dict_inv;refine⟨p,es,kt,k,rfl,hH,b1K dk ho hk d1,?_⟩;rw[←V8 dk.keys];exact q
def b1L(ho:OpR X (bS op) (a3n X neg))(ha:PX X M a fa ca)(hb:PX X M b fb cb)(hm:eE op b=false:=by first|exact Y4 _|with_unfolding_all rfl):PX X M (.Compare a [op] [b] pos) (e2 (v9 neg kt) fa fb) (.new .i):=by
 obtain⟨ta,pa,qa⟩:=ha.out;obtain⟨tb,pb,qb⟩:=hb.out;refine .mk ⟨_,a8c ho pa pb hm,λρ σ H P F d Q S hf q=>?_⟩;obtain⟨x,y,h1,h2,h3⟩:=A6 hf;refine qa ρ σ H P F x _ S h1 λv H1 e1 r1=>qb ρ σ H1 P F y _ (S.grow e1) h2 λw H2 e2 r2=>a5K (r1.den.up e2) r2.den h3 ?_
 obtain⟨kvs,rfl,_,_,rfl⟩:=a3M h3;exact q _ H2 (e1.trans e2) (D8 (by simp only[imm]) den_bool (S.lst' (e1.trans e2)))
def V9(ho:OpR X (bS op) (a3n X neg))(ha:PX X M a fa ca)(hb:PX X M b fb cb)(hm:eE op b=false:=by first|exact Y4 _|with_unfolding_all rfl):PTX X M (.Compare a [op] [b] pos) (tB (e2 (v9 neg kt) fa fb)):=by
 obtain⟨ta,pa,qa⟩:=ha.out;obtain⟨tb,pb,qb⟩:=hb.out;refine .mk ⟨_,Z9 ho pa pb hm,λρ σ H P F k Q S hf q=>?_⟩;obtain⟨d,hf,hk⟩:=bnd hf;cases K6 hk
 obtain⟨x,y,h1,h2,h3⟩:=A6 hf;exact qa ρ σ H P F x _ S h1 λv H1 e1 r1=>qb ρ σ H1 P F y _ (S.grow e1) h2 λw H2 e2 r2=>a5K (r1.den.up e2) r2.den h3 ⟨k,rfl,q H2 (e1.trans e2)⟩
def b1M{es:List (D×V×V)}(hn:(es.map (·.1)).Nodup)(hk:∀e∈es,aJ e.1 k=true↔e.1=k)(h:DenKV K H es kvs)(he:e∈es)(fH:e.1=k):∃d,y7 kvs k=el d∧Den K H e.2.2 d:=by
 obtain⟨j,hj⟩:=bM.mp he;have hl:kvs.length=es.length:=by have:=fC iQ h.keys;simpa using this.symm
 have hz:kvs=(es.map (·.1)).zip (kvs.map (·.2)):=by
  rw[h.keys,List.zip_map',List.map_id'' (λp=>rfl)]
 obtain⟨p,hp⟩:∃p,kvs[j]?=el p:=⟨_,ak (by rw[hl];exact (aP.mp hj).1)⟩;have hd:(kvs.map (·.2))[j]?=el p.2:=by rw[aU,hp];rfl
 refine⟨p.2,?_,?_⟩
 ·rw[hz];exact a0l (by rw[ar];exact hl) hk hn hj fH hd
 ·obtain⟨v,z1,z2⟩:=h.vals.get hd;rw[aU,hj]at z1;cases z1
  exact z2
def b9d(X:Cx)(td ty:TE):TE:=λσ H Q=>td σ H λx H1=>ty σ H1 λy H2=>∃a es kt k,x=.ref a∧H2 a=el (c6 a es)∧KeysAt X H2 kt es k y∧r8 es k=true∧((es.map (·.1)).Nodup→∀e∈es,e.1=k→Q e.2.2 H2)
def b4o(hu:X.A.units+64<cV)(ho:PE X a td)(hi:PE X b ty)(hs:a3H b):PE X (.Subscript a b pos) (b9d X td ty):=by
 intro pins s σ H Q I h;refine b9a qD.lookup hs (L2.thn (ho pins s σ H _ I h) λu s1 ⟨x,H1,I1,rx,q1⟩=>L2.thn (hi pins s1 σ H1 _ I1 q1) λiv s2 ⟨y,H2,I2,ry,p,es,kt,k,ex,hH,K,hh,q2⟩=>?_);subst ex;obtain rfl:u=aW p:=rx;have hn:=(m8 I2 hH).2.2.1;exact⟨j6 I2 hH,a2q (by lia) I2 hH K ry hh λe he fH x s3 I3 r3=>⟨e.2.2,H2,I3,r3,q2 hn e he fH⟩⟩
def a9I(h:X0 kt d k=el r):∃kvs,d=.dict kvs∧m9 kt k=true∧keysOk kt kvs=true∧y7 kvs k=el r:=by
 cases d with
 |dict kvs=>
  have h':(if m9 kt k&&keysOk kt kvs then y7 kvs k else p4)=el r:=h;by_cases c:(m9 kt k&&keysOk kt kvs)=true
  ·rw[aB c]at h';rw[av]at c;exact⟨kvs,rfl,c.1,c.2,h'⟩
  ·rw[aI c]at h';cases h'
 |_=>cases h
def a1N(hu:X.A.units+64<cV)(ha:PX X M a fa (.new .f))(hb:PX X M b fb cb)(hs:a3H b:=by exact λ_ _=>rfl):PX X M (.Subscript a b pos) (e2 (X0 kt) fa fb) (.new .f):=by
 obtain⟨ta,pa,qa⟩:=ha.out;obtain⟨tb,pb,qb⟩:=hb.out;refine .mk ⟨_,b4o hu pa pb hs,λρ σ H P F d Q S hf q=>?_⟩;obtain⟨x,y,h1,h2,h3⟩:=A6 hf;obtain⟨kvs,rfl,hk,hok,hg⟩:=a9I h3;refine qa ρ σ H P F _ _ S h1 λv H1 e1 ⟨fp,o,nd,fr⟩=>qb ρ σ H1 P F y _ (S.grow e1) h2 λw H2 e2 r2=>?_
 simp only[Own]at o;obtain⟨rfl,o⟩:=o;have o2:Den X.K (cut H2 F) v (.dict kvs):=o.up (K4 e2 λa o ha jW=>by simpa using jW);obtain⟨p,es,rfl,hH,dk⟩:=o2.dict_inv;have wX:DenKV X.K H2 es kvs:=DenKV.mono i7 kvs dk;have KK:=b1K wX hok hk r2.den;refine⟨p,es,kt,y,rfl,i7 _ _ hH,KK,by rw[←V8 dk.keys];exact a0m hg,λhn e he fH=>?_⟩;obtain⟨d',g',dd⟩:=b1M hn (λe he=>KK.eqv he) dk he fH;rw[hg]at g';cases g'
 refine q _ H2 (e1.trans e2) ⟨[],?_,bA,λa ha=>(nomatch ha)⟩;simp only[Own];exact⟨trivial,dd⟩
end
end VS
namespace VS
open PySem PySem.Spec L2 PyProof.Rows
section
variable {X:Cx}{pins:List (au×fD)}{σ:L2.St}{H:Hp}{s:ai}{A:bD}{E:ah→ai→Prop}{a:au}{es:List (D×V×V)}{kt:Bool}{k:D}{kv v:V}{key val:ah}
def a7j{Q:ah→ai→Prop}(I:Inv X pins σ H s)(h:H a=el (c6 a es))(hQ:∀t s',Inv X pins σ H s'→Q (.int es.length t) s'):aC (aV X.prog X.w) A (Builtin.«len» ⟨[.ref a],[]⟩) (λfin s'=>∃r,fin=.done (.ret r)∧Q r s') E s:=by
 have hT:=j6 I h;obtain⟨hd,hl,_,o,ents,ep,h1,h2,h3,h4⟩:=m8 I h;have hsz:ents.size=es.length:=by
  have:=cM h4;have e2:ents.toList.length=ents.size:=by simp
  lia
 have pG:(es.length:Int)<2^63:=by
  have:aS<2^62:=by decide
  lia
 unfold Builtin.«len»;refine ab (m:=oneArg "len" _) (ae ?_);refine ab (m:=callSpecial? (.ref a) (cm "__len__")) (bK (name:=cm "__len__") hT ip (bB ip hT F.entry_dict_len ?_ (F.args_dict_len_1 _)));show aC _ _ (dictSize a >>= _) _ _ s;unfold dictSize;refine ab (ab (cC h1 h3 (ae ?_)));show aC _ _ (xf a >>= _) _ _ s;refine ab (xj hd ?_);refine sF ?_;rw[Nat.add_zero,hsz];refine ab (bJ (ae ?_));refine ab (mH ?_);show aC _ _ (if ((es.length:Nat):Int)<0 then _ else _) _ _ _;rw[aI (by lia)];show aC _ _ (if ((es.length:Nat):Int)≥2^63 then _ else _) _ _ _;rw[aI (by lia)];exact ab (wpAny_mkInt (ae ⟨_,rfl,hQ _ _ (I.tok _)⟩))
def a9J{Q:Bool→ai→Prop}(I:Inv X pins σ H s)(h:H a=el (c6 a es))(hQ:∀s',Inv X pins σ H s'→Q (!es.isEmpty) s'):aC (aV X.prog X.w) A (uD (.ref a)) Q E s:=by
 have hT:=j6 I h;have gj:((es.length:Int)!=0)=!es.isEmpty:=by cases es<;>simp<;>lia
 have key:aC (aV X.prog X.w) A (runValue (.builtin "len" ⟨[.ref a],[]⟩)) (λr s'=>(∃t,r=.int es.length t)∧Q (!es.isEmpty) s') E s:=by
  refine mE (dP entry_len ?_);rw[cW plain_len _];exact cX (a7j (Q:=λr s'=>(∃t,r=.int es.length t)∧Q (!es.isEmpty) s') I h λt s' I'=>⟨⟨t,rfl⟩,hQ s' I'⟩)
   (λfin s' h'=>by obtain⟨r,rfl,hq⟩:=h';exact hq) λ_ _ e=>e
 unfold uD
 first
  |refine ab (zu (name:=cm "__bool__") hT noBool_dict ?_)
  |refine ab (ae (ab (zu (name:=cm "__bool__") hT noBool_dict ?_)))
 first
  |refine ab (dy (name:=cm "__len__") hT ip.lookup ?_)
  |refine ab (ae (ab (dy (name:=cm "__len__") hT ip.lookup ?_)))
 first
  |exact ab (cX key (λr s' h'=>by obtain⟨⟨t,rfl⟩,hq⟩:=h';exact ae (gj▸hq)) λ_ _ e=>e)
  |exact ab (ae (ab (cX key (λr s' h'=>by obtain⟨⟨t,rfl⟩,hq⟩:=h';exact ae (gj▸hq)) λ_ _ e=>e)))
end
section
variable {X:Cx}{M:List Md}{a:Expr}{ta:TE}{fa:EvE}{ca:Cat}
def b4p(ha:PE X a ta)(he:∀whole,qR a X.env whole=(do let v ←whole;standAt a.pos;nt [v] (uD v))):PT X a (λσ H Q=>ta σ H λx H'=>∃p es,x=.ref p∧H' p=el (c6 p es)∧Q (!es.isEmpty) H'):=by
 intro pins s σ H Q I h;refine isTrue_plain (L2.thn (ha pins s σ H _ I h) λv s1 ⟨x,H1,I1,r1,p,es,ex,hH,q1⟩=>?_) (he _);subst ex;obtain rfl:v=aW p:=r1;exact a9J I1 hH λs' I'=>⟨H1,I',q1⟩
def trD:D→Option Bool
 |.dict kvs=>el !kvs.isEmpty
 |_=>p4
noncomputable def tVD(a:EvE):EvT:=λρ=>(a ρ).bind trD
def b1N(ha:PX X M a fa ca)(he:∀whole,qR a X.env whole=(do let v ←whole;standAt a.pos;nt [v] (uD v)):=by intro _;rfl):PTX X M a (tVD fa):=by
 obtain⟨ta,pa,qa⟩:=ha.out;refine .mk ⟨_,b4p pa he,λρ σ H P F k Q S hf q=>?_⟩;obtain⟨x,h1,hf⟩:=bnd hf;refine qa ρ σ H P F _ _ S h1 λv H1 e1 r1=>?_
 cases x with
 |dict kvs=>
  have oH:el (!kvs.isEmpty)=el k:=hf;cases oH
  obtain⟨p,es,rfl,hH,dk⟩:=r1.den.dict_inv;refine⟨p,es,rfl,hH,?_⟩;have hl:es.isEmpty=kvs.isEmpty:=by
   have:=fC iQ dk.keys;rw[ar,ar]at this;cases es<;>cases kvs<;>simp_all
  rw[hl];exact q H1 e1
 |_=>cases hf
end
end VS
namespace VS
open PySem PySem.Spec L2
section
variable {X:Cx}{pins:List (au×fD)}{σ:L2.St}{H:Hp}{s:ai}{A:bD}{E:ah→ai→Prop}{a:au}{es fs:List (D×V×V)}{k:D}{kv v:V}{key val:ah}{kt:Bool}{F:List au}
theorem a1s:∀{l:List α} {m:List β},eO R l m→∀{i:Nat} {x:α},l[i]?=el x→∃y,m[i]?=el y∧R x y
 |_,_,.nil,i,x,h=>by simp at h
 |_,_,.cons r t,0,x,h=>by
  cases h
  exact⟨_,rfl,r⟩
 |_,_,.cons r t,i+1,x,h=>by
  obtain⟨y,h1,h2⟩:=a1s t (i:=i) (x:=x) (by simpa using h);exact⟨y,by simpa using h1,h2⟩
def a5L(I:Inv X pins σ H s)(hu:A.units+10<cV)(h:H a=el (c6 a es))(K:KeysAt X H kt es k kv)(rk:RelV kv key)(rv:RelV v val)(hl:es.length<aS)(oD:∀e∈es,e.1≠k) 
  (hQ:∀h',Inv X pins σ (upd H a (c6 a (es++[(k,kv,v)]))) {s with heap:=h'}→cE a s.heap h'→Q () {s with heap:=h'}):aC (aV X.prog X.w) A (kN a key (hashD k) val) Q E s:=by
 obtain⟨hs,_,hn,o,ents,ep,h1,h2,h3,h4⟩:=m8 I h;have hsz:ents.size≤aS:=by
  have:=cM h4;have e2:ents.toList.length=ents.size:=by simp
  lia
 have hf:r8 es k=false:=by
  unfold r8;rw[cB];exact λe he hq=>oD e he ((K.eqv he).mp hq)
 unfold kN
 try with_reducible refine bJ ?_
 refine ab (V3 I hu h1 h3 h4 hn K.keys K.key K.den rk ?_ ?_)
 ·intro _;exact ab (dW (mD (hz:=hsz) h1 h3 (hQ _ (a0T (t':=s.toks) I h K rk rv hl hf h1 h2 h3 h4) (bQ ..))))
 ·intro j e he fH;exact absurd fH (oD e (bo he))
def b1O(I:Inv X pins σ H s)(hu:A.units+10<cV)(hd:H d=el (c6 d es))(ho:H o=el (c6 o fs))(sd:d≠o)(gj:es≠[])(yL:d∈F)
  (hk:∀e∈es++fs,keyOk kt e.1∧Den X.K (cut H F) e.2.1 e.1) (jl:((es++fs).map (·.1)).Nodup) (hsz:es.length+fs.length≤aS) (hQ:∀s',Inv X pins σ (upd H d (c6 d (es++fs))) s'→Q () s') :
  aC (aV X.prog X.w) A (iS nm d o) Q E s:=by
 obtain⟨FO,_,hn,od,ri,F_,C_,iJ,vy,CV⟩:=m8 I hd;obtain⟨Dc,_,oD,oo,mf,FZ,wA,FP,pK,Ag⟩:=m8 I ho;unfold iS;rw[aI (by simpa using sd)];unfold jd;rw[aI (by rw[Dc];exact aQ)];refine ab (ae ?_);refine ab (cC wA pK ?_);have hlen:fs.length=mf.size:=by rw[cM Ag];simp
 have zW:∀o',Same (cut H F) (cut (upd H d o') F):=λo' c u hc=>by
  obtain⟨q1,q2⟩:=o6 hc;have ne:c≠d:=λz=>q1 (by rw[z];exact yL)
  exact j5 q1 (by rw[f7 ne];exact q2)
 have loop:aC (aV X.prog X.w) A (do
   let vO ←dictEpoch o
   let l ←dictEntries o
   forIn [:l.size] kC λi (_:PUnit)=>(do
     let l' ←dictEntries o
     match l'[i]? with
      |some e=>do
       nt [e.key,e.val] (kN d e.key e.hash e.val)
       let qA ←dictEpoch o
       if (qA !=vO)=true then do
         (rN (toString nm++toString ":source-changed-during-callback"):Sem PUnit)
         pure (dU kC)
        else pure (dU kC)
      |_=>do
       (rN "internal:dict-merge":Sem PUnit)
       pure (dU kC):Sem (ForInStep PUnit))
   pure ()) Q E s:=by
  refine ab (jD wA pK ?_);refine ab (cC wA pK ?_);refine ab ?_;rw[Std.Legacy.Range.forIn_eq_forIn_range'];simp only[Std.Legacy.Range.size,Nat.sub_zero,Nat.add_sub_cancel,Nat.div_one];have start:Inv X pins σ (upd H d (c6 d (es++fs.take 0))) s:=by
   have e:upd H d (c6 d (es++fs.take 0))=H:=by
    funext c
    by_cases z:c=d
    ·rw[z,i6,hd];simp
    ·rw[f7 z]
   rw[e];exact I
  refine wpAny_forIn_list _
   (λrest _ s'=>∃i,rest=List.range' i (mf.size-i)∧i≤mf.size∧Inv X pins σ (upd H d (c6 d (es++fs.take i))) s'∧s'.heap.get? o=el oo)
   _ ?_ ?_ _ _ ⟨0,by simp,bI _,start,wA⟩
  ·rintro x rest b s' ⟨i,hr,hi,I',sQ⟩;have hW:i<mf.size:=by
    rcases gC i mf.size with h|h
    ·exact h
    ·rw[Nat.sub_eq_zero_of_le h]at hr;simp at hr
   obtain⟨rfl,jq⟩:x=i∧rest=List.range' (i+1) (mf.size-(i+1)):=by
    have e:mf.size-i=(mf.size-(i+1))+1:=by lia
    rw[e,Ff]at hr
    injection hr with h1 h2
    exact⟨h1,h2⟩
   refine ab (cC sQ pK ?_);rw[bF hW];obtain⟨f,hf⟩:∃f,fs[x]?=el f:=⟨fs[x]'(by rw[hlen];exact hW),ak _⟩;obtain⟨y,hy,hh,rk,rv⟩:=a1s Ag hf;have xM:mf[x]=y:=by
    have:mf.toList[x]?=el mf[x]:=by simp[hW]
    rw[hy]at this;exact (aK this).symm
   show aC _ _ (nt [mf[x].key,mf[x].val] (kN d mf[x].key mf[x].hash mf[x].val) >>= _) _ _ _;rw[xM,hh];have lg:es++fs=(es++fs.take x)++f::fs.drop (x+1):=by
    have e1:fs=fs.take x++f::fs.drop (x+1):=by
     have qS:=(aP.mp hf);obtain⟨ua,uW⟩:=qS;rw[←uW,←fw ua,List.take_append_drop]
    rw[bp,←e1]
   have KK:KeysAt X (upd H d (c6 d (es++fs.take x))) kt (es++fs.take x) f.1 f.2.1:=
    ⟨λe he=>⟨(hk e (by rw[lg];exact aL _ he)).1,((hk e (by rw[lg];exact aL _ he)).2.up (zW _)).up i7⟩,
     (hk f (by rw[lg];simp)).1,((hk f (by rw[lg];simp)).2.up (zW _)).up i7⟩
   have qZ:∀e∈es++fs.take x,e.1≠f.1:=λe he z=>by
    rw[lg,aT,aA,aZ]at jl;exact jl.2.2 e.1 (bG he) f.1 aj z
   have Ao:(es++fs.take x).length<aS:=by
    rw[bg,eh];lia
   refine ab (bJ (a5L (v:=f.2.2) I' hu i6 KK rk rv Ao qZ λEy Bv sb=>?_));have rY:Ey.get? o=el oo:=(sb.2 o (dN sd)).trans sQ;refine ab (jD rY pK ?_);rw[aI (by simp)];refine ae ⟨x+1,jq,hW,?_,rY⟩;rw[b3r,bp]at Bv;have e2:fs.take (x+1)=fs.take x++[(f.1,f.2.1,f.2.2)]:=by rw[List.take_add_one,hf];rfl
   rw[e2];exact Bv
  ·rintro b s' ⟨i,hr,hi,I',sQ⟩;have jW:i=mf.size:=by
    rcases gC i mf.size with h|h
    ·have e:mf.size-i=(mf.size-(i+1))+1:=by lia
     rw[e,Ff]at hr;exact nomatch hr
    ·exact Nat.le_antisymm hi h
   rw[jW,←hlen,ki]at I';exact ae (hQ s' I')
 dsimp only
 split
 ·refine ab (cC C_ vy ?_)
  split
  ·rename_i yG
   have h0:ri=#[]:=Array.isEmpty_iff.mp yG;have:=cM CV;rw[h0]at this;exact absurd (fO.mp (by simpa using this)) gj
  ·exact loop
 ·exact loop
def a9K(hu:A.units+12<cV)(I:Inv X pins σ H s)(hd:H d=el (c6 d es))(ho:H o=el (c6 o fs))(sd:d≠o)(gj:es≠[])(yL:d∈F)
  (hk:∀e∈es++fs,keyOk kt e.1∧Den X.K (cut H F) e.2.1 e.1) (jl:((es++fs).map (·.1)).Nodup) (hsz:es.length+fs.length≤aS) (hQ:∀s',Inv X pins σ (upd H d (c6 d (es++fs))) s'→Q .none s') :
  aC (aV X.prog X.w) A (call (.builtin "dict.update") [.ref d,.ref o]) Q E s:=by
 have hT:=j6 I hd;have tI:=j6 I ho;refine bB rA hT PySem.F.entry_dict_update ?_ (PySem.F.args_dict_update_2 _ _);unfold Builtin.«dict.update»;refine ab ?_;unfold kU;refine ab (fG hT ?_);show aC _ _ (pure (d,[aW o])) _ _ s;refine ae ?_;show aC _ _ (eV "dict.update" d (.ref o) [] .none) _ _ s;unfold eV;refine ab (gY tI ?_);rw[aI (by decide)];refine ab ?_;unfold Builtin.Dict.merge;refine ab ?_;unfold xc;refine ab (fu tI isSubtype_dict_dict ?_);simp only[iK,cg,dX];refine ab (dy tI PySem.F.slot_dict_iter.lookup (ae ?_));simp only[fL,gT];refine ab (ae ?_);refine b1O (A:=A.in1) I (by show A.units+1+10<cV;lia) hd ho sd gj yL hk jl hsz λs' I'=>?_
 show aC _ _ (zp d [] >>= _) _ _ _;exact ab (ae (ae ⟨.none,rfl,hQ s' I'⟩))
end
section
variable {K:ag}{M:List Md}{ρ:List D}{σ:L2.St}{H P:Hp}{F:List au}{i j:Nat}{kt:Bool}{u:Ty}
def StR.update(oF:i≠j)(h:StR K M ρ σ H P F)(hi:M[i]?=el (.own (.d kt u)))(hj:M[j]?=el (.own (.d kt u))) :
  ∃F' a b es fs ds eX,σ[i]?=el (el (.ref a))∧σ[j]?=el (el (.ref b))∧a≠b∧ρ[i]?=el (.dict ((es.map (·.1)).zip ds))∧ρ[j]?=el (.dict ((fs.map (·.1)).zip eX))∧H a=el (c6 a es)∧H b=el (c6 b fs)∧a∈F'∧
   (∀e∈es++fs,keyOk kt e.1∧Den K (cut H F') e.2.1 e.1)∧ds.length=es.length∧eX.length=fs.length∧(es.map (·.1)).Nodup∧(fs.map (·.1)).Nodup∧
   (((es++fs).map (·.1)).Nodup→StR K (M.set j (.keys kt)) (ρ.set i (.dict (((es++fs).map (·.1)).zip (ds++eX)))) σ (upd H a (c6 a (es++fs))) P F'):=by
 obtain⟨G,h1,h2,h3⟩:=h.all;obtain⟨dj,oj,fj,o_,mM,Bb,Ba,⟨vj,rfl,Oj⟩,zf,EH⟩:=h1.at_ hj;obtain⟨b,fs,eX,gs,rfl,wR,rfl,rfl,wC,Em,vg,yh⟩:=Oj.dict;rw[zf]at h2;have jf:∀x∈F.filter (λx=>decide (x≠b)),x∈F:=λx hx=>(bu.mp hx).1
 have se:b∉F.filter (λx=>decide (x≠b)):=λhx=>absurd rfl (aN (bu.mp hx).2)
 have hc:Same (cut H F) (cut H (F.filter (λx=>decide (x≠b)))):=D7 jf;have uG:SlotR K H (F.filter (λx=>decide (x≠b))) (.keys kt) (el (.ref b)) (.dict ((fs.map (·.1)).zip eX)) []:=
  ⟨rfl,b,fs,_,rfl,rfl,j5 se wR,(Fh (by rw[ar,vg];exact aD _)).symm,λe he=>⟨(wC e he).1,(wC e he).2.up hc⟩⟩
 have q1:=EH H _ (.keys kt) _ (el (.ref b)) [] (λ_ _=>rfl) hc uG;rw[set_same Bb,set_same Ba]at q1;have ud:(M.set j (.keys kt))[i]?=el (.own (.d kt u)):=by rw[gx (dN oF)];exact hi
 obtain⟨di,oi,f1,oq,lZ,EL,Be,⟨vi,rfl,Oi⟩,EK,EJ⟩:=q1.at_ ud;obtain⟨a,es,ds,fi,rfl,wU,rfl,rfl,wD,En,nL,yi⟩:=Oi.dict;have tM:o_++mM=oq++((a::fi)++lZ):=by simpa using EK
 have apart:=a3C h2;have ko:∀x∈o_++mM,x∈F:=λx hx=>h3 x (by rw[zf];exact mem_mid hx)
 have tH:a∈o_++mM:=by rw[tM];simp
 have oV:a≠b:=λz=>apart b aj (by rw[←z];exact tH)
 have t_:∀x∈F,x≠b→x∈F.filter (λx=>decide (x≠b)):=λx hx hb=>bu.mpr ⟨hx,aH hb⟩
 have nv:a∈F.filter (λx=>decide (x≠b)):=t_ a (ko a tH) oV;have oE:∀e∈es++fs,keyOk kt e.1∧Den K (cut H (F.filter (λx=>decide (x≠b)))) e.2.1 e.1:=λe he=>by
  rcases aF.mp he with z|z
  ·exact wD e z
  ·exact⟨(wC e z).1,(wC e z).2.up hc⟩
 refine⟨_,a,b,es,fs,ds,eX,Be,Ba,oV,EL,Bb,wU,wR,nv,oE,nL,vg,yi,yh,λjl=>?_⟩;have md:Same (cut H (F.filter (λx=>decide (x≠b)))) (cut (upd H a (c6 a (es++fs))) (F.filter (λx=>decide (x≠b)))):=λc o' wI=>by
  obtain⟨r1,r2⟩:=o6 wI;have ne:c≠a:=λz=>r1 (by rw[z];exact nv)
  exact j5 r1 (by rw[f7 ne];exact r2)
 have vd:(oq++((a::fi)++lZ)).Nodup:=by rw[←tM];exact N6 h2
 have vD:a∉fi++lZ:=by
  have:=(aZ.mp vd).2.1;rw[bx,bt]at this;exact this.1
 have vC:a∉oq:=λz=>(aZ.mp vd).2.2 a z a (by simp) rfl
 have yS:a∉gs:=λz=>apart a (aq _ z) tH
 have own:Own K (upd H a (c6 a (es++fs))) (F.filter (λx=>decide (x≠b))) (.d kt u) (.ref a) (.dict (((es++fs).map (·.1)).zip (ds++eX))) (a::(fi++gs)):=by
  simp only[Own];refine⟨a,es++fs,ds++eX,fi++gs,rfl,i6,rfl,rfl,⟨jl,λe he=>⟨(oE e he).1,(oE e he).2.up md⟩⟩,?_⟩;rw[aT];refine ListAll.append (En.imp λv d f hf _ q=>q.frame md u λx hx=>?_) (Em.imp λv d f hf _ q=>q.frame (hc.trans md) u λx hx=>?_)
  ·exact f7 λz=>vD (aL _ (by rw[←z];exact hf x hx))
  ·exact f7 λz=>yS (by rw[←z];exact hf x hx)
 have q2:=EJ _ _ (.own (.d kt u)) _ (el (.ref a)) (a::(fi++gs)) (λx hx=>f7 λz=>by
  rcases aF.mp hx with y|y
  ·exact vC (by rw[←z];exact y)
  ·exact vD (ax _ (by rw[←z];exact y))) md ⟨_,rfl,own⟩
 rw[set_same ud,set_same Be]at q2;have vq:gs.Nodup:=by
  have:=(aZ.mp h2).2.1;rw[bx,bt]at this;exact (aZ.mp this.2).1
 have eG:oq++((a::(fi++gs))++lZ)=(oq++(a::fi))++(gs++lZ):=by simp
 have eP:o_++mM=(oq++(a::fi))++lZ:=by rw[tM];simp
 refine⟨⟨_,q2,?_,λx hx=>?_⟩,λx hx=>?_,h.prot.trans (hc.trans md)⟩
 ·rw[eG];exact a0L (by rw[←eP];exact N6 h2) vq λx hx z=>apart x (aq _ hx) (by rw[eP];exact z)
 ·rw[eG]at hx;rcases a4B hx with z|z
  ·have kn:x≠b:=λy=>by
    have:=(aZ.mp h2).2.1;rw[bx,bt]at this;exact this.1 (aL _ (by rw[←y];exact z))
   exact t_ x (h3 x (by rw[zf];exact ax _ (aL _ (aq _ z)))) kn
  ·have sJ:x∈o_++mM:=by rw[eP];exact z
   exact t_ x (ko x sJ) λy=>apart b aj (by rw[←y];exact sJ)
 ·by_cases z:x=a
  ·rw[z];exact⟨⟨c6 a (es++fs),trivial⟩,i6⟩
  ·rw[f7 z];exact h.lst x (jf x hx)
end
noncomputable def a9L(i j:Nat):EvS:=λρ=>match ρ.getD i .none,ρ.getD j .none with
 |.dict kvs,.dict more=>if !kvs.isEmpty&&(more.all λp=>!v7 kvs p.1)&&decide (kvs.length+more.length≤1000000) then el (.nx (ρ.set i (.dict (kvs++more)))) else p4
 |_,_=>p4
section
variable {X:Cx}{w u:Ty}{ML M:List Md}{kt:Bool}{pos apos cH px py:ff}{x y:bC}
def c0x(X:Cx):V→List V→Hp→VK→Prop:=λz xs H Q=>∃p q es fs kt F,z=.ref p∧xs=[.ref q]∧H p=el (c6 p es)∧H q=el (c6 q fs)∧p≠q∧es≠[]∧p∈F∧(∀e∈es++fs,keyOk kt e.1∧Den X.K (cut H F) e.2.1 e.1)∧((es++fs).map (·.1)).Nodup∧es.length+fs.length≤aS∧Q .non (upd H p (c6 p (es++fs)))
def b7o(hu:X.A.units+64<cV):MtR X "dict.update" (c0x X):=by
 intro pins s σ H z xs v us Q I rx rv h;obtain⟨p,q,es,fs,kt,F,rfl,rfl,hp,hq,CU,gj,CW,hk,jl,hsz,qq⟩:=h;cases (show v=aW p from rx)
 obtain⟨w,rfl,rw⟩:=rv.one;cases (show w=aW q from rw)
 exact a9K (by lia) I hp hq CU gj CW hk jl hsz λs' I'=>⟨.non,_,I',rfl,qq⟩
def a9M(i j:Nat)(oF:i≠j)(hu:X.A.units+64<cV)(hi:M[i]?=el (.own (.d kt u)):=by rfl)(hj:M[j]?=el (.own (.d kt u)):=by rfl)(Ek:X.N[i]?=el x:=by rfl)(Ej:X.N[j]?=el y:=by rfl)
  (CN:Vis X.env.scope x:=by first|exact cn rfl|exact bY (cn rfl)|exact bY (bY rfl)) (CM:Vis X.env.scope y:=by first|exact cn rfl|exact bY (cn rfl)|exact bY (bY rfl))
  (pL:(x==("__debug__":bC))=false:=by decide) (DR:(x==("__classdict__":bC))=false:=by decide) (DK:(y==("__debug__":bC))=false:=by decide) (DQ:(y==("__classdict__":bC))=false:=by decide)
  (eK:dc (.Name x px) "update" X.env (cy (.Name x px) X.env)=cy (.Name x px) X.env:=by rfl)
  (kq:((cx cH (aw [.Name y py] X.env)).all (λx=>!x.1)&&(mV cH (jn [] X.env)).all (λx=>x.1.isSome)
   && decide (([.Name y py]:List Expr).length+([]:List hJ).length+(if ([]:List hJ).isEmpty then 0 else 1)<30))=true:=by rfl)
  (eJ:(apos.endLine==cH.line)=true:=by rfl) (hs:aw [.Name y py] X.env=(false,cy (.Name y py) X.env)::aw [] X.env:=by rfl) (gI:(cx cH (aw [] X.env)).any (·.1)=false:=by rfl)
  (oy:fI (.Call (.Attribute (.Name x px) "update" apos) [.Name y py] [] cH) p4 pos.line X.env=pure false:=by rfl) :
  PSX X w ML M (.Expr (.Call (.Attribute (.Name x px) "update" apos) [.Name y py] [] cH) pos) (a9L i j) (M.set j (.keys kt)):=by
 refine .mk ⟨_,Z7 (a7g rA PySem.F.type_dict_update (b7o hu) (C0 Ek CN pL DR) (l5 (C0 Ej CM DK DQ) p0 hs) eK kq eJ hs gI) oy,λD ρ σ H P F o S hg k=>?_⟩;obtain⟨F',a,b,es,fs,ds,eX,s1,s2,oV,r1,r2,wU,wR,nv,oE,nL,vg,yi,yh,S'⟩:=S.update oF hi hj;unfold a9L at hg;rw[z8 r1,z8 r2]at hg;have mR:(if !((es.map (·.1)).zip ds).isEmpty&&(((fs.map (·.1)).zip eX).all λp=>!v7 ((es.map (·.1)).zip ds) p.1)&&decide (((es.map (·.1)).zip ds).length+((fs.map (·.1)).zip eX).length≤1000000) then el (Out.nx (ρ.set i (.dict ((es.map (·.1)).zip ds++(fs.map (·.1)).zip eX)))) else p4)=el o:=hg
 split at mR
 ·next c=>
  cases mR
  rw[av,av]at c;obtain⟨⟨c1,c2⟩,c3⟩:=c;have l1:((es.map (·.1)).zip ds).length=es.length:=by rw[dS,ar,nL,kE]
  have l2:((fs.map (·.1)).zip eX).length=fs.length:=by rw[dS,ar,vg,kE]
  have EZ:=aN c3;rw[l1,l2]at EZ;have gj:es≠[]:=λz=>by rw[z]at c1;simp at c1
  have jl:((es++fs).map (·.1)).Nodup:=by
   rw[aT,aZ];refine⟨yi,yh,λp hp q hq z=>?_⟩;obtain⟨e,he,rfl⟩:=aY.mp hp;obtain⟨f,hf,rfl⟩:=aY.mp hq;obtain⟨n,hn⟩:=bM.mp hf;have hW:n<eX.length:=by rw[vg];exact (aP.mp hn).1
   have hm:(f.1,eX[n])∈(fs.map (·.1)).zip eX:=by
    refine bM.mpr ⟨n,?_⟩;rw[jE];exact⟨by rw[aU,hn];rfl,ak hW⟩
   have oD:=bj.mp c2 _ hm;have qY:v7 ((es.map (·.1)).zip ds) f.1=false:=by simpa using oD
   rw[v8 nL]at qY;unfold r8 at qY;rw[cB]at qY;refine qY e he ?_;exact (A1 e.1 f.1 (oE e (aL _ he)).1.1 (oE f (ax _ hf)).1.1).mpr z
  have hz:aS=16777216:=cQ;refine⟨.ref a,s1,⟨a,es,rfl,wU⟩,.ref b,s2,⟨a,b,es,fs,kt,F',rfl,rfl,wU,wR,oV,gj,nv,oE,jl,by lia,?_⟩⟩;have S2:=S' jl;rw[aT,oO (by rw[ar];exact nL.symm)]at S2;exact k σ _ F' S2
 ·cases mR
end
def StE.getKeys(h:StE K M ρ σ H P F)(hm:M[j]?=el (.keys kt)) :
  ∃a es kvs,σ[j]?=el (el (.ref a))∧ρ.getD j .none=.dict kvs∧H a=el (c6 a es)∧es.map (·.1)=kvs.map (·.1)∧∀e∈es,keyOk kt e.1∧Den K H e.2.1 e.1:=by
 obtain⟨G,h1,h3⟩:=h.all;obtain⟨d,o,f,pre,post,e1,e2,⟨_,a,es,kvs,rfl,rfl,z1,z2,z3⟩,e4,_⟩:=h1.at_ hm;exact⟨a,es,kvs,e2,z8 e1,i7 _ _ z1,z2,λe he=>⟨(z3 e he).1,(z3 e he).2.up i7⟩⟩
section
variable {X:Cx}{M:List Md}{a:Expr}{fa:EvE}{ca:Cat}{kt:Bool}{pos py:ff}{y:bC}
def b4q(j:Nat)(ho:OpR X (bS op) (a3n X neg))(ha:PX X M a fa ca)(hj:M[j]?=el (.keys kt):=by rfl)(hN:X.N[j]?=el y:=by rfl)(hv:Vis X.env.scope y:=by first|exact cn rfl|exact bY (cn rfl)|exact bY (bY rfl))
  (hd:(y==("__debug__":bC))=false:=by decide) (hc:(y==("__classdict__":bC))=false:=by decide) (hm:eE op (.Name y py)=false:=by first|exact Y4 _|with_unfolding_all rfl):PTX X M (.Compare a [op] [.Name y py] pos) (tB (e2 (dIn neg kt) fa (b7 j))):=by
 obtain⟨ta,pa,qa⟩:=ha.out;refine .mk ⟨_,Z9 ho pa (C0 hN hv hd hc) hm,λρ σ H P F k Q S hf q=>?_⟩;obtain⟨d,hf,vn⟩:=bnd hf;cases K6 vn
 obtain⟨x,z,h1,h2,h3⟩:=A6 hf;cases h2
 refine qa ρ σ H P F x _ S h1 λv H1 e1 r1=>?_
 obtain⟨p,es,kvs,s1,hr,hH,hk,oE⟩:=(S.grow e1).getKeys hj;rw[hr]at h3;obtain⟨Cs,e3,Dw,e4⟩:=a5H h3;cases e3
 refine⟨.ref p,s1,p,es,kt,x,rfl,hH,⟨oE,v5 Dw,r1.den⟩,?_⟩;rw[←V8 hk];cases e4
 exact⟨_,rfl,q H1 e1⟩
end
def a9N(neg:Bool):D→D→Option D
 |y,.list ds=>if be ds&&y.canLay0&&decide (y.depth≤60) then el (.bool (neg !=ds.any λd=>aJ d y)) else p4
 |_,_=>p4
def b9e(K:ag)(neg:Bool):R2:=λx y H Q=>∃p ys ds d,y=.ref p∧SqX K H p ys∧DenAll K H ys ds∧Den K H x d∧be ds=true∧d.canLay0=true∧d.depth≤60∧Q (.bl (neg !=ds.any λe=>aJ e d)) H
def b7p:∀{l:List D} {e:D},be l=true→e∈l→e.canLay0=true:=by
 intro l
 induction l with
 |nil=>intro e _ he;cases he
 |cons x l ih=>
  intro e hl he;simp only[be,av]at hl;rcases az.mp he with z|z
  ·rw[z];exact hl.1
  ·exact ih hl.2 z
section
variable {X:Cx}
def a9O{s:ai}:∀{ds:List D} {us:List ah} {as:List au},jx s.heap us ds as→be ds=true→us.any (b4k s.heap d)=ds.any λe=>aJ e d:=by
 intro ds
 induction ds with
 |nil=>intro us as r _;cases r;rfl
 |cons d0 ds ih=>
  intro us as r hl;simp only[be,av]at hl;cases r with
  |cons r1 r2=>rw[jT,jT,ih r2 hl.2,a8o r1 hl.1]
def b7q(hu:X.A.units+64<cV):OpR X (bS .In) (b9e X.K false):=by
 intro pins s σ H x y v u Q I rx ry h;obtain⟨p,ys,ds,d,rfl,hp,yH,hd,c1,c2,c3,q⟩:=h;cases (show u=aW p from ry)
 obtain⟨_,cJ,n,qg,ho⟩:=hp.ok I;obtain⟨as,ra⟩:=DenAll.reads I ds c1 yH qg;obtain⟨bs,rb⟩:=Den.reads I d c2 hd rx;refine SeqAt.in_listAt (items:=cJ.toArray) (b4k s.heap d) ⟨_,ho,rfl,n,rfl⟩ (λu rT=>?_) ⟨.bl _,H,I,rfl,?_⟩
 ·obtain⟨j,hj⟩:=bM.mp (show u∈cJ by simpa using rT);obtain⟨e,E_,he,re⟩:=a4O ra hj;have hle:=b7p c1 (bo he);rw[a8o re hle];exact SeqAt.eqAt_reads e d X.A.in1 s _ _ _ _ re rb hle c2 (by have:=Nat.min_le_right e.depth d.depth;show X.A.units+1+_<_;lia)
 ·rw[List.any_toArray,a9O ra c1];simpa using q
def b7r(ho:OpR X f (b9e X.K neg)):OpS X f (a9N neg):=by
 refine⟨_,ho,λx y H a b d Q ha hb hg q=>?_⟩;cases b with
 |list ds=>
  have mR:(if be ds&&a.canLay0&&decide (a.depth≤60) then el (df (neg !=ds.any λd=>aJ d a)) else p4)=el d:=hg;by_cases c:(be ds&&a.canLay0&&decide (a.depth≤60))=true
  ·rw[aB c]at mR;cases mR
   rw[av,av]at c;obtain⟨p,ys,rfl,k1,k2⟩:=hb.list_inv;exact⟨p,ys,ds,a,rfl,k1,k2,ha,c.1.1,c.1.2,aN c.2,q _ (by simp only[imm]) λ_=>den_bool⟩
  ·rw[aI c]at mR;cases mR
 |_=>cases hg
def b7s(hu:X.A.units+64<cV):OpS X (bS .In) (a9N false):=b7r (b7q hu)
end
def frz:Md→Md
 |.own .i=>.own .i
 |.own _=>.own .f
 |m=>m
def b1P(h:SlotR K H F m o d f):SlotR K H [] (frz m) o d []:=by
 have hc:Same (cut H F) (cut H []):=λa x ha=>j5 (by simp) (i7 a x ha)
 have key:∀u:Ty,(∃v,o=el v∧Own K H F u v d f)→SlotR K H [] (.own .f) o d []:=λu ⟨v,e,q⟩=>⟨v,e,by
  have hd:Den K H v d:=q.den;simp only[Own];exact⟨trivial,hd.up λa x ha=>j5 (by simp) ha⟩⟩
 cases m with
 |dead=>rfl
 |own u=>
  cases u with
  |i=>
   obtain⟨v,e,q⟩:=h;refine⟨v,e,?_⟩;simp only[Own]at q ⊢;exact⟨trivial,q.2.1,q.2.2.up hc⟩
  |f=>exact key _ h
  |l u=>exact key _ h
  |tp us=>exact key _ h
  |d kt u=>exact key _ h
 |exc=>obtain⟨_,h2⟩:=h.frame (H':=H) (F':=[]) hc λ_ _=>rfl;exact⟨rfl,h2⟩
 |keys kt=>obtain⟨_,h2⟩:=h.frame (H':=H) (F':=[]) hc λ_ _=>rfl;exact⟨rfl,h2⟩
 |pin v=>exact⟨rfl,h.2⟩
 |fn Φ=>obtain⟨_,h2⟩:=h.frame (H':=H) (F':=[]) hc λ_ _=>rfl;exact⟨rfl,h2⟩
theorem a3N:∀{M:List Md} {ρ:List D} {σ:L2.St} {G:List au},StAll K H F M ρ σ G→StAll K H [] (M.map frz) ρ σ []
 |[],_,_,_,h=>by simp only[StAll]at h;obtain⟨rfl,rfl,_⟩:=h;exact J8
 |m::M,_,_,_,h=>by
  simp only[StAll]at h;obtain⟨d,ρ,o,σ,f,g,rfl,rfl,rfl,h1,h2⟩:=h;exact k7 (f:=[]) (g:=[]) (b1P h1) (a3N h2)
section
variable {X:Cx}{M ML:List Md}{u:Ty}{e:Expr}{f:EvE}{pos:ff}
def StR.free(S:StR K M ρ σ H P F)(hM:M.map frz=M):StR K M ρ σ H P []:=by
 obtain⟨G,h1,_,_⟩:=S.all;have:=a3N h1;rw[hM]at this;exact⟨⟨[],this,bA,λa ha=>(nomatch ha)⟩,λa ha=>(nomatch ha),S.prot.trans λa x ha=>j5 (by simp) (i7 a x ha)⟩
end
end VS
namespace VS
open PySem PySem.Spec L2
open PyProof.Rows (KeyOrd mirror bubble getElem?_mirror_all getElem?_bubble mirror_perm bubble_perm)
open PySem.W (KasT kas_asc kas_desc kas_rev kas_tail3 kas_descPart kas_count kas_place kas_bin kas_sort)
section
variable {O:KeyOrd}{key:Nat→O.α}{N:Nat}{sh:ai}{cmp:Nat→Nat→(Bool→ai→Prop)→ai→Prop}
def kyP(key:Nat→O.α)(p:Array Nat)(i:Nat):O.α:=key (p.getD i 0)
def UpTo(key:Nat→O.α)(p:Array Nat)(k:Nat):Prop:=∀i j,i≤j→j<k→O.kle (kyP key p i) (kyP key p j)
def DnTo(key:Nat→O.α)(p:Array Nat)(k:Nat):Prop:=∀i j,i≤j→j<k→O.kle (kyP key p j) (kyP key p i)
def AllN(N:Nat)(p:Array Nat):Prop:=p.toList.Perm (aX N)
def a5M(key:Nat→O.α)(N:Nat)(sh:ai)(cmp:Nat→Nat→(Bool→ai→Prop)→ai→Prop):Prop:=
 ∀(i j:Nat) (C:Bool→ai→Prop),i<N→j<N→C (O.blt (key i) (key j)) sh→cmp i j C sh
theorem AllN.size(h:AllN N p):p.size=N:=by
 have:=h.length_eq;simpa using this
def AllN.lt(h:AllN N p)(hi:i<N):p.getD i 0<N:=by
 have hs:i<p.size:=by rw[h.size];exact hi
 have e:p.getD i 0=p[i]:=by simp[zq,hs]
 rw[e];have:p[i]∈p.toList:=by simp
 exact b_.mp (h.mem_iff.mp this)
def AllN.of{p q:Array Nat}(h:AllN N p)(hq:q.Perm p):AllN N q:=(Array.perm_iff_toList_perm.mp hq).trans h
def O5{p q:Array Nat}(h:p[i]?=q[j]?):kyP key p i=kyP key q j:=by
 unfold kyP
 congr 1;simp only[dO,h]
def a4R{p:Array Nat}(hj:j≤p.size)(k:Nat):kyP key (kas_rev p i j) k=if i≤k∧k<j then kyP key p (i+j-1-k) else kyP key p k:=by
 have z:=getElem?_mirror_all (i:=i) hj k;by_cases c:i≤k∧k<j
 ·rw[aB c]at z;rw[aB c];exact O5 z
 ·rw[aI c]at z;rw[aI c];exact O5 z
def a0U{p:Array Nat}(hj:j≤p.size)(he:∀k,i≤k→k<j→kyP key p k=kyP key p (j-1))(k:Nat):kyP key (kas_rev p i j) k=kyP key p k:=by
 rw[a4R hj];by_cases c:i≤k∧k<j
 ·rw[aB c,he _ (by lia) (by lia),he k c.1 c.2]
 ·rw[aI c]
def a8q{p:Array Nat}(hk:k<p.size)(hl:l≤k)(i:Nat):kyP key (bubble p k (k-l)) i=if i=l then kyP key p k else if l<i∧i≤k then kyP key p (i-1) else kyP key p i:=by
 have z:=getElem?_bubble hk (k-l) (Nat.sub_le _ _) i;rw[show k-(k-l)=l by lia]at z;by_cases c:i=l
 ·rw[aB c]at z;rw[aB c];exact O5 z
 ·rw[aI c]at z;rw[aI c];by_cases c2:l<i∧i≤k
  ·rw[aB c2]at z;rw[aB c2];exact O5 z
  ·rw[aI c2]at z;rw[aI c2];exact O5 z
def UpTo.one:UpTo key p 1:=λi j h1 h2=>by
 obtain rfl:i=j:=by lia
 exact fx _
def UpTo.step{p:Array Nat}{n:Nat}(h1:1≤n)(h:UpTo key p n)(hk:O.kle (kyP key p (n-1)) (kyP key p n)):UpTo key p (n+1):=λi j a b=>by
 by_cases c:j<n
 ·exact h i j a c
 ·obtain rfl:j=n:=by lia
  by_cases e:i=j
  ·rw[e];exact fx _
  ·exact nE (h i (j-1) (by lia) (by lia)) hk
def DnTo.step{p:Array Nat}{n:Nat}(h1:1≤n)(h:DnTo key p n)(hk:O.kle (kyP key p n) (kyP key p (n-1))):DnTo key p (n+1):=λi j a b=>by
 by_cases c:j<n
 ·exact h i j a c
 ·obtain rfl:j=n:=by lia
  by_cases e:i=j
  ·rw[e];exact fx _
  ·exact nE hk (h i (j-1) (by lia) (by lia))
def DnTo.congr(h:DnTo key p n)(e:∀k,kyP key q k=kyP key p k):DnTo key q n:=λi j a b=>by rw[e,e];exact h i j a b
theorem a7k(hc:a5M key N sh cmp)(hp:AllN N p):∀(f n:Nat),1≤n→n+f≤N→UpTo key p n→
  (∀m,n≤m→m≤n+f→UpTo key p m→(m=n+f∨O.klt (kyP key p m) (kyP key p (m-1)))→Q m sh)→(kas_asc p f n).kasWp cmp Q sh
 |0,n,_,_,hu,q=>q n (aD _) (aD _) hu (.inl rfl)
 |f+1,n,h1,h2,hu,q=>by
  unfold kas_asc;refine hc _ _ _ (hp.lt (by lia)) (hp.lt (by lia)) ?_;cases c:O.blt (kyP key p n) (kyP key p (n-1)) with
  |true=>
   rw[show O.blt (key (p.getD n 0)) (key (p.getD (n-1) 0))=true from c];dsimp only;rw[aB rfl];exact q n (aD _) (by lia) hu (.inr c)
  |false=>
   rw[show O.blt (key (p.getD n 0)) (key (p.getD (n-1) 0))=false from c];dsimp only;rw[aI aQ];refine a7k hc hp f (n+1) (by lia) (by lia) (hu.step h1 c) λm m1 m2 mu mo=>q m (by lia) (by lia) mu ?_
   rcases mo with e|e
   ·exact .inl (by lia)
   ·exact .inr e
def a5N(hc:a5M key N sh cmp)(hp:AllN N p)(h1:1≤n)(h2:n≤N)(hd:DnTo key p n) 
  (q:∀m p',AllN N p'→1≤m→m≤N→UpTo key p' m→Q (m,p') sh):(kas_tail3 n N p).kasWp cmp Q sh:=by
 unfold kas_tail3;rw[jU];have rX:AllN N (kas_rev p 0 n):=hp.of (Cn _ _ _ _);have hz:n≤p.size:=by rw[hp.size];exact h2
 refine a7k hc rX (N-n) n h1 (by lia) (λi j a b=>?_) λm m1 m2 mu _=>q m _ rX (by lia) (by lia) mu
 rw[a4R hz,a4R hz,aB ⟨bI _,by lia⟩,aB ⟨bI _,b⟩];exact hd _ _ (by lia) (by lia)
theorem a1O(hc:a5M key N sh cmp) 
  (q:∀p n e,AllN N p→1≤n→n≤N→DnTo key p n→e+1≤n→(∀i,n-(e+1)≤i→i<n→kyP key p i=kyP key p (n-1))→Q (p,n,e) sh) :
  ∀(f:Nat) (p:Array Nat) (n e:Nat),AllN N p→1≤n→n+f≤N→DnTo key p n→e+1≤n→(∀i,n-(e+1)≤i→i<n→kyP key p i=kyP key p (n-1))→(kas_desc f p n e).kasWp cmp Q sh
 |0,p,n,e,hp,h1,h2,hd,he,hq=>q p n e hp h1 (by lia) hd he hq
 |f+1,p,n,e,hp,h1,h2,hd,he,hq=>by
  unfold kas_desc;have hz:n≤p.size:=by rw[hp.size];lia
  refine hc _ _ _ (hp.lt (by lia)) (hp.lt (by lia)) ?_;cases c:O.blt (kyP key p n) (kyP key p (n-1)) with
  |true=>
   rw[show O.blt (key (p.getD n 0)) (key (p.getD (n-1) 0))=true from c];dsimp only;rw[aB rfl];have km:DnTo key p (n+1):=hd.step h1 (mx c);by_cases ce:e>0
   ·rw[aB ce];refine a1O hc q f _ (n+1) 0 (hp.of (Cn _ _ _ _)) (by lia) (by lia) (km.congr (a0U hz hq)) (by lia) λi a b=>?_
    rw[show i=n+1-1 by lia]
   ·rw[aI ce];refine a1O hc q f _ (n+1) 0 hp (by lia) (by lia) km (by lia) λi a b=>?_
    rw[show i=n+1-1 by lia]
  |false=>
   rw[show O.blt (key (p.getD n 0)) (key (p.getD (n-1) 0))=false from c];dsimp only;rw[aI aQ];refine hc _ _ _ (hp.lt (by lia)) (hp.lt (by lia)) ?_;cases c2:O.blt (kyP key p (n-1)) (kyP key p n) with
   |true=>
    rw[show O.blt (key (p.getD (n-1) 0)) (key (p.getD n 0))=true from c2];dsimp only;rw[aB rfl];exact q p n e hp h1 (by lia) hd he hq
   |false=>
    rw[show O.blt (key (p.getD (n-1) 0)) (key (p.getD n 0))=false from c2];dsimp only;rw[aI aQ];have eq:kyP key p n=kyP key p (n-1):=O.total _ _ c c2;refine a1O hc q f p (n+1) (e+1) hp (by lia) (by lia) (hd.step h1 (by rw[eq];exact fx _)) (by lia) λi a b=>?_
    rw[show n+1-1=n by lia];by_cases ci:i=n
    ·rw[ci]
    ·rw[eq];exact hq i (by lia) (by lia)
def a1t(hc:a5M key N sh cmp)(hp:AllN N p)(h2:n+1≤N)(hd:DnTo key p (n+1)) 
  (q:∀m p',AllN N p'→1≤m→m≤N→UpTo key p' m→Q (m,p') sh):(kas_descPart n N p).kasWp cmp Q sh:=by
 unfold kas_descPart;rw[jU];refine a1O hc (λp' m e rX m1 m2 km he hq=>?_) (N-(n+1)) p (n+1) 0 hp (by lia) (by lia) hd (by lia) λi a b=>by rw[show i=n+1-1 by lia]
 have hz:m≤p'.size:=by rw[rX.size];exact m2
 by_cases ce:e>0
 ·simp only[ce,gT];exact a5N hc (rX.of (Cn _ _ _ _)) m1 m2 (km.congr (a0U hz hq)) q
 ·simp only[ce,dX];exact a5N hc rX m1 m2 km q
def b1Q(hc:a5M key N sh cmp)(hp:AllN N p)(hN:1≤N) 
  (q:∀m p',AllN N p'→1≤m→m≤N→UpTo key p' m→Q (m,p') sh):(kas_count N p).kasWp cmp Q sh:=by
 unfold kas_count;rw[jU];refine a7k hc hp (N-1) 1 (aD _) (by lia) UpTo.one λm m1 m2 mu mo=>?_
 by_cases cN:(m==N)=true
 ·rw[aB cN];exact q m p hp m1 (by lia) mu
 ·rw[aI cN];have FJ:m≠N:=λz=>cN (by simp[z])
  have hW:O.klt (kyP key p m) (kyP key p (m-1)):=mo.resolve_left (by lia);have hz:m≤p.size:=by rw[hp.size];lia
  by_cases c1:m>1
  ·rw[aB c1];refine hc _ _ _ (hp.lt (by lia)) (hp.lt (by lia)) ?_;cases c:O.blt (kyP key p 0) (kyP key p (m-1)) with
   |true=>
    rw[show O.blt (key (p.getD 0 0)) (key (p.getD (m-1) 0))=true from c];dsimp only;rw[aB rfl];exact q m p hp m1 (by lia) mu
   |false=>
    rw[show O.blt (key (p.getD 0 0)) (key (p.getD (m-1) 0))=false from c];dsimp only;rw[aI aQ];have jt:∀k,0≤k→k<m→kyP key p k=kyP key p (m-1):=λk _ hk=>by
     have a1:=mu 0 k (bI _) hk;have a2:=mu k (m-1) (by lia) (by lia);exact KeyOrd.kle_antisymm a2 (nE (show O.kle (kyP key p (m-1)) (kyP key p 0) from c) a1)
    refine a1t hc (hp.of (Cn _ _ _ _)) (by lia) (DnTo.congr (p:=p) (λi j a b=>?_) (a0U hz jt)) q;by_cases cj:j<m
    ·rw[jt i (bI _) (by lia),jt j (bI _) cj];exact fx _
    ·obtain rfl:j=m:=by lia
     by_cases ci:i=j
     ·rw[ci];exact fx _
     ·rw[jt i (bI _) (by lia)];exact mx hW
  ·rw[aI c1];obtain rfl:m=1:=by lia
   refine a1t hc hp (by lia) (λi j a b=>?_) q;by_cases ci:i=j
   ·rw[ci];exact fx _
   ·obtain rfl:i=0:=by lia
    obtain rfl:j=1:=by lia
    exact mx hW
theorem a2v(hc:a5M key N sh cmp)(hp:AllN N p)(hk:k<N)(hu:UpTo key p k) 
  (q:∀l,l≤k→(∀i,i<l→O.kle (kyP key p i) (kyP key p k))→(∀i,l≤i→i<k→O.klt (kyP key p k) (kyP key p i))→Q l sh) :
  ∀(f l r:Nat),r-l≤f→l≤r→r≤k→(∀i,i<l→O.kle (kyP key p i) (kyP key p k))→(∀i,r≤i→i<k→O.klt (kyP key p k) (kyP key p i))→(kas_place p k f l r).kasWp cmp Q sh
 |0,l,r,h1,h2,h3,lo,hi=>by
  obtain rfl:l=r:=by lia
  exact q l h3 lo hi
 |f+1,l,r,h1,h2,h3,lo,hi=>by
  unfold kas_place;by_cases c:l≥r
  ·rw[aB c];obtain rfl:l=r:=by lia
   exact q l h3 lo hi
  ·rw[aI c];refine hc _ _ _ (hp.lt hk) (hp.lt (by lia)) ?_;cases c2:O.blt (kyP key p k) (kyP key p ((l+r) / 2)) with
   |true=>
    rw[show O.blt (key (p.getD k 0)) (key (p.getD ((l+r) / 2) 0))=true from c2];dsimp only;rw[aB rfl];exact a2v hc hp hk hu q f l ((l+r) / 2) (by lia) (by lia) (by lia) lo λi a b=>KeyOrd.klt_of_klt_of_kle c2 (hu _ _ a b)
   |false=>
    rw[show O.blt (key (p.getD k 0)) (key (p.getD ((l+r) / 2) 0))=false from c2];dsimp only;rw[aI aQ];exact a2v hc hp hk hu q f ((l+r) / 2+1) r (by lia) (by lia) h3 (λi a=>nE (hu i ((l+r) / 2) (by lia) (by lia)) (show O.kle _ _ from c2)) hi
theorem b1R(hc:a5M key N sh cmp)(q:∀p,AllN N p→UpTo key p N→Q p sh) :
  ∀(f:Nat) (p:Array Nat) (k:Nat),k+f=N→AllN N p→UpTo key p k→(kas_bin f p k).kasWp cmp Q sh
 |0,p,k,e,hp,hu=>by
  obtain rfl:k=N:=by lia
  exact q p hp hu
 |f+1,p,k,e,hp,hu=>by
  unfold kas_bin;rw[jU];refine a2v hc hp (by lia) hu (λl hl lo hi=>?_) k 0 k (by lia) (bI _) (aD _) (λi a=>absurd a (Gh _)) λi a b=>by lia
  refine b1R hc q f _ (k+1) (by lia) (hp.of (bubble_perm _ _ _)) λi j a b=>?_
  have hk:k<p.size:=by rw[hp.size];lia
  rw[a8q hk hl,a8q hk hl];by_cases ci:i=l
  ·rw[aB ci];by_cases cj:j=l
   ·rw[aB cj];exact fx _
   ·rw[aI cj,aB ⟨by lia,by lia⟩];exact mx (hi _ (by lia) (by lia))
  ·rw[aI ci];by_cases Bh:l<i∧i≤k
   ·rw[aB Bh,aI (by lia),aB ⟨by lia,by lia⟩];exact hu _ _ (by lia) (by lia)
   ·rw[aI Bh];by_cases cj:j=l
    ·rw[aB cj];exact lo i (by lia)
    ·rw[aI cj];by_cases Bg:l<j∧j≤k
     ·rw[aB Bg];exact hu _ _ (by lia) (by lia)
     ·rw[aI Bg];exact hu _ _ (by lia) (by lia)
def b4r(hc:a5M key N sh cmp)(hN:1≤N)(q:∀p,AllN N p→UpTo key p N→Q p sh):(kas_sort N).kasWp cmp Q sh:=by
 unfold kas_sort;rw[jU];refine b1Q hc (show AllN N (tO (aX N)) from et _) hN λm p hp m1 m2 mu=>?_
 by_cases c:m<N
 ·simp only[c,gT];refine b1R hc q (N-max m 1) p (max m 1) (by lia) hp ?_;rw[show max m 1=m by lia];exact mu
 ·simp only[c,dX];obtain rfl:m=N:=by lia
  exact q p hp mu
end
end VS
namespace PySem
open Sem (wp)
set_option maxRecDepth 100000
def Heap.RawDict(hp:bN)(d:au)(rows:Array eA)(ep:Nat):Prop:=∃u,hp.get? d=el u∧u.ExactDict∧u.data=.dict rows ep
section
variable {prog:br}{w:bL}{A:bD}{E:ah→ai→Prop}{sh:ai}{d it:au}{rows:Array eA}{ep i:Nat}
def Heap.RawDict.at{h h':bN}(x:h.RawDict d rows ep)(e:∀o,h.get? d=el o→h'.get? d=el o):h'.RawDict d rows ep:=let⟨u,hu,r⟩:=x;⟨u,e _ hu,r⟩
def Heap.RawDict.typeIs(x:sh.heap.RawDict d rows ep):sh.TypeIs (.ref d) "dict":=let⟨u,hu,r,_⟩:=x;⟨u,hu,r.1⟩
def a5O(h0:(d==cR)=false)(hm:sh.heap.RawDict d rows ep)
  (q:Q (.ref sh.heap.objs.size) {sh with heap:=sh.heap.push {cls:=.type "dict_keyiterator",data:=.fields #[.ref d,.int 0 0,.int rows.size 0,.int ep 0]}}) :
  aC (aV prog w) A (qO (.ref d)) Q E sh:=by
 obtain⟨u,hu,hx,lP⟩:=id hm;refine oX hm.typeIs rG (bB rG hm.typeIs F.entry_dict_iter ?_ (F.args_dict_iter_1 _));unfold Builtin.«dict.__iter__»;refine ab ?_;unfold Builtin.Dict.dictSlotNone;refine ab (fG hm.typeIs ?_);show aC _ _ (pure (aW d)) _ _ sh;refine ae ?_;show aC _ _ (jd d >>= _) _ _ sh;unfold jd;rw[aI (by rw[h0];exact aQ)];refine ab (ae (ab (cC hu lP (ab (jD hu lP ?_)))));refine ab (dg (ae ⟨_,rfl,"dict_keyiterator",_,⟨_,aE _ rfl,rfl⟩,eW.lookup,?_⟩));simpa[cY]using q
def a5P(hI:sh.heap.IsKeyIter it d i rows.size ep)(hm:sh.heap.RawDict d rows ep)(hi:i<rows.size)
  (q:∀h',h'.IsKeyIter it d (i+1) rows.size ep→cE it sh.heap h'→Q (el rows[i].key) {sh with heap:=h'}):aC (aV prog w) A (fP (.ref it)) Q E sh:=by
 obtain⟨x,hx,qT,lI⟩:=id hI;obtain⟨u,hu,_,nU⟩:=id hm;unfold fP;refine ab (gz (bK (name:=cm "__next__") hI.typeIs eW (bB eW hI.typeIs sE ?_ (rH _))));refine ab (ae (ab (ab ?_)))
 first|refine ab (fX hI.typeIs (ae ?_))|refine ab (ie hI.typeIs (ae ?_))
 refine ab (iN hx lI ?_);simp only[show tS "dict_keyiterator"=false from by decide,cg,dX];show aC _ _ (if (aW d==bz)=true then _ else _) _ _ sh;rw[aI (show ¬ (aW d==bz)=true from aQ)];refine ab (ae (ab (cC hu nU ?_)));rw[aI (by simp)];refine ab (ae (ab (jD hu nU ?_)));rw[aI (by simp)];refine ae ?_;simp only[show ¬ (i:Int)<0 from by lia,dX,bV,bF hi];refine ab ?_
 first|refine ab (fX hI.typeIs (ae ?_))|refine ab (ie hI.typeIs (ae ?_))
 refine ab (Fn hI.typeIs ?_);show aC _ _ (setField (.ref it) 1 (cY ((i:Int)+1)) >>= _) _ _ sh;refine ab (eH hx lI (by simp) ?_);have sg:(sh.heap.update it (zm (·.setIfInBounds 1 (cY ((i:Int)+1))))).IsKeyIter it d (i+1) rows.size ep:=
  ⟨_,bT _ hx (mv (gh lI _)),(p_ ..).trans qT,by rw[gh lI];simp[cY]⟩
 refine ab (bJ ?_);refine ab (Fn (s:={sh with heap:=sh.heap.update it (zm (·.setIfInBounds 1 (cY ((i:Int)+1))))}) sg.typeIs ?_);show aC _ _ (pure rows[i].key) _ _ _;exact ae (ae ⟨_,rfl,ae (q _ sg (bQ ..))⟩)
def a5Q(hh:A.handled=p4)(hI:sh.heap.IsKeyIter it d i rows.size ep)(hm:sh.heap.RawDict d rows ep)(hi:rows.size≤i)
  (q:∀h',sD it sh.heap h'→Q p4 {sh with heap:=h'}):aC (aV prog w) A (fP (.ref it)) Q E sh:=by
 obtain⟨x,hx,qT,lI⟩:=id hI;obtain⟨u,hu,_,nU⟩:=id hm;unfold fP;refine ab (gz (bK (name:=cm "__next__") hI.typeIs eW (bB eW hI.typeIs sE ?_ (rH _))));refine ab (ae (ab (ab ?_)))
 first|refine ab (fX hI.typeIs (ae ?_))|refine ab (ie hI.typeIs (ae ?_))
 refine ab (iN hx lI ?_);simp only[show tS "dict_keyiterator"=false from by decide,cg,dX];show aC _ _ (if (aW d==bz)=true then _ else _) _ _ sh;rw[aI (show ¬ (aW d==bz)=true from aQ)];refine ab (ae (ab (cC hu nU ?_)));rw[aI (by simp)];refine ab (ae (ab (jD hu nU ?_)));rw[aI (by simp)];refine ae ?_;simp only[show ¬ (i:Int)<0 from by lia,dX,bV,dw hi];refine ab ?_
 first|refine ab (fX hI.typeIs (ae ?_))|refine ab (ie hI.typeIs (ae ?_))
 show aC _ _ (setField (.ref it) 0 .none >>= _) _ _ sh;refine ab (eH hx lI (by simp) ?_);show aC _ _ (Ci (.type "StopIteration") [] >>= _) _ _ _;refine ab ?_;simp only[Ci,newTuple];refine ab (dg ?_ (by size_fits));refine ab (m:=iO _ _) (rK (a:=bz) (by first|rfl|(simp only[iO];rfl)) ?_);refine dg ?_ (by size_fits);simp only[raiseNew];refine ab (xp ?_);rw[show A.in1.handled=p4 from hh];refine ab (ae (wpAny_throw ?_));refine ab (fu (b:=true) (T:="StopIteration") ⟨_,aE _ rfl,rfl⟩ uP ?_);exact ae (q _ (((bQ ..).extBut.push _).push _))
def a9P(hh:A.handled=p4)(gj:d≠it):Walks prog w A it [it,d] [it] rows.size (λi v=>∃e,rows[i]?=el e∧v=e.key) (λi h=>h.IsKeyIter it d i rows.size ep∧h.RawDict d rows ep) where
 sub:=λb hb=>az.mpr (.inl (ao.mp hb))
 frame:=λ_ _ _ st hk=>⟨st.1.at λo e=>hk it aj o e,st.2.at λo e=>hk d (aq _ aj) o e⟩
 item:=λi s Q E hi st q=>a5P st.1 st.2 hi λh' hI hs=>q _ h' s.toks ⟨rows[i],bF hi,rfl⟩ ⟨hI,st.2.at λo e=>hs.extBut d o gj e⟩ λb o hb e=>hs.extBut b o (λz=>hb (by rw[z];exact ao.mpr rfl)) e
 done:=λs Q E st q=>a5Q hh st.1 st.2 (aD _) λh' he=>q h' s.toks λb o hb e=>he b o (λz=>hb (by rw[z];exact ao.mpr rfl)) e
 self:=λ_ _ _ _ st q=>wpAny_pyIter_keyiter st.1 q
def a8r(h0:(d==cR)=false):W.KdlSrc prog w "dict" d d rows.size (λi v=>∃e,rows[i]?=el e∧v=e.key) (λh=>h.RawDict d rows ep) where
 type:=λ_ hm=>hm.typeIs
 there:=λh hm=>let⟨_,hu,_⟩:=hm;⟨aG hu,aG hu⟩
 keep:=λ_ _ hm hk=>hm.at λo e=>hk d (.inl rfl) o e
 notList:=by decide
 notTuple:=by decide
 hint:=λ_ _ s _ hm q=>W.kdl_hint_dict (Heap.RawDict.typeIs (sh:=s) hm) q
 iter:=λ_ _ hh hm=>⟨_,_,(λ_ _ q=>a5O h0 hm q),a9P hh (let⟨_,hu,_⟩:=hm;a_ (aG hu)),⟨⟨_,aE _ rfl,rfl,rfl⟩,hm.at λ_ e=>af _ e⟩⟩
end
end PySem
namespace VS
open PySem PySem.Spec L2
open PyProof.Rows (KeyOrd SortKind SortSt keyKind' keyLt' seqObj listItems_at listUpdate_at seqEpoch_at arrOf failedOf get?_update_seq list_sort_plain general' tuples' size_push' slot_list_sort entry_list_sort args_list_sort kind_sorted plain_sorted entry_sorted args_sorted1)
open PySem.W (kas_sort kas_ask kas_item kat_run kat_snds)
section
variable {prog:br}{w:bL}{A:bD}{E:ah→ai→Prop}{sh:ai}{vs:List ah}{κ:nz}{O:KeyOrd}{key:Nat→O.α}
def Kept(h h':bN):Prop:=∀b o,h.get? b=el o→h'.get? b=el o
def Kept.refl(h:bN):Kept h h:=λ_ _ e=>e
theorem Kept.push(x:Kept h h')(o:fD):Kept h (h'.push o):=λb u e=>af _ (x b u e)
def Kept.upd(x:Kept h h')(f:fD→fD)(ha:h.objs.size≤a):Kept h (h'.update a f):=λb u e=>by
 rw[c_ _ _ (dQ (bw (aG e) ha))];exact x b u e
structure Sortable (prog:br) (w:bL) (A:bD) (h0:bN) (ks:List ah) (κ:nz) (O:KeyOrd) (key:Nat→O.α):Prop where
 kind:2≤ks.length→∀(s:ai) (E:ah→ai→Prop) (Q:nz→ai→Prop),Kept h0 s.heap→Q κ s→aC (aV prog w) A (keyKind' ks.toArray) Q E s
 lt:∀(s:ai) (i j:Nat) (C:Bool→ai→Prop),Kept h0 s.heap→i<ks.length→j<ks.length→C (O.blt (key i) (key j)) s→aC (aV prog w) A (keyLt' κ (ks.getD i bz) (ks.getD j bz)) C (λ_ _=>False) s
def b1S(S:Sortable prog w A h0 vs κ O key)(vn:Kept h0 sh.heap)(wL:h0.objs.size≤a)(ho:sh.heap.get? a=el (iH "list" vs.toArray n))(sj:vs.length<64)
  (q:∀(p:Array Nat) (h':bN) (e:Nat),AllN vs.length p→UpTo key p vs.length→Kept h0 h'→sh.heap.objs.size≤h'.objs.size→h'.get? a=el (iH "list" (p.toList.map λi=>vs.getD i bz).toArray e)→P (.done (.ret .none)) {sh with heap:=h'}) :
  aC (aV prog w) A (Builtin.«list.sort» ⟨[.ref a],[]⟩) P E sh:=by
 rw[list_sort_plain];have tG:a<sh.heap.objs.size:=aG ho;obtain⟨c1,o1⟩:∃c1,(sh.heap.update a (eu λ_=>(#[]:Array ah))).get? a=el (iH "list" #[] c1):=⟨_,get?_update_seq ho λ_=>#[]⟩;have kW:vs.length≤aS:=by rw[cQ];lia
 refine ab (listItems_at ho rfl (ab (listUpdate_at ho rfl ?_ (by rw[bb];exact kW) (bI _))));refine ab (seqEpoch_at o1 rfl (ab (mG ?_ kW)));refine ab (xo ?_ (bI _));refine bJ ?_
 let oS:bN:=((sh.heap.update a (eu λ_=>(#[]:Array ah))).push (iH "tuple" vs.toArray 0)).push (iH "list" #[] 0)
 have k2:Kept h0 oS:=((vn.upd _ wL).push _).push _;have o2:oS.get? a=el (iH "list" #[] c1):=af _ (af _ o1);have z2:sh.heap.objs.size≤oS.objs.size:=by
  show _≤(((sh.heap.update a (eu λ_=>(#[]:Array ah))).push (iH "tuple" vs.toArray 0)).push (iH "list" #[] 0)).objs.size;rw[size_push',size_push',rF];lia
 show aC (aV prog w) A _ P E {sh with heap:=oS};have fin:∀p:Array Nat,AllN vs.length p→UpTo key p vs.length→P (.done (.ret .none)) {sh with heap:=oS.update a (eu λ_=>(p.toList.map λi=>vs.getD i bz).toArray)}:=λp hp hu=>by
  obtain⟨c3,o3⟩:∃c3,(oS.update a (eu λ_=>(p.toList.map λi=>vs.getD i bz).toArray)).get? a=el (iH "list" (p.toList.map λi=>vs.getD i bz).toArray c3):=⟨_,get?_update_seq o2 λ_=>_⟩;exact q p _ c3 hp hu (k2.upd _ wL) (by rw[rF];exact z2) o3
 dsimp only
 by_cases h2:vs.toArray.size<2
 ·rw[aB h2,aB h2];refine ab (ae ?_);rw[StateT.run_pure];refine ab (ae ?_);have qo:vs.length<2:=by simpa using h2
  have f:=fin (tO (aX vs.length)) (et _) λi j a b=>by
   obtain rfl:i=j:=by lia
   exact fx _
  have e:(tO (aX vs.length)).toList.map (λi=>vs.getD i bz)=vs:=by
   match vs,qo with
   |[],_=>rfl
   |[v],_=>rfl
   |_::_::_,h=>simp at h;lia
  rw[e]at f;have ez:(arrOf (SortSt.mk' general' (vs.toArray.zip vs.toArray) #[] 7 p4)).map (·.2)=vs.toArray:=by
   show (vs.toArray.zip vs.toArray).map (·.2)=vs.toArray;simp[List.map_snd_zip]
  dsimp only
  rw[ez];refine ab (seqEpoch_at o2 rfl (ab (listUpdate_at o2 rfl ?_ (bI _) (by rw[bb];exact nh kW))));simp only[Bi,cg,dX];exact ae f
 ·rw[aI h2,aI h2];have FL:¬ vs.length<2:=by simpa using h2
  have qo:2≤vs.length:=by lia
  refine ab (S.kind qo {sh with heap:=oS} _ _ k2 ?_);refine ab (cX (kat_run (ks:=vs) (G:=λp s'=>s'={sh with heap:=oS}∧AllN vs.length p∧UpTo key p vs.length) (Q:=λlM s'=>s'={sh with heap:=oS}∧∃p:Array Nat,arrOf lM=p.map (kas_item (vs.toArray.zip vs.toArray))∧failedOf lM=p4∧AllN vs.length p∧UpTo key p vs.length)
   rfl qo sj (λp' lM s' a1 a2 a3 ⟨a4,a5,a6⟩=>⟨a4,p',a2,a3,a5,a6⟩)
   (b4r (key:=key) (λi j C hi hj hC=>S.lt {sh with heap:=oS} i j C k2 hi hj hC) (by lia) λp hp hu=>⟨rfl,hp,hu⟩)) ?_ λ_ _ e=>e)
  rintro⟨⟨⟩,lM⟩ s' ⟨rfl,p,Ec,hf,hp,hu⟩
  dsimp only
  rw[kat_snds rfl Ec];have fJ:(p.toList.map λi=>vs.getD i bz).length≤aS:=by rw[ar,hp.length_eq,gc];exact kW
  refine ab (seqEpoch_at o2 rfl (ab (listUpdate_at o2 rfl ?_ (bI _) (by rw[bb];exact nh fJ))));rw[hf];simp only[Bi,cg,dX];exact ae (fin p hp hu)
def Gives(prog:br)(w:bL)(A:bD)(sh:ai)(r:ah)(vs:List ah):Prop:=
 ∀(E:ah→ai→Prop) (Q:List ah→ai→Prop),(∀(h':bN) (tk:Nat),Kept sh.heap h'→sh.heap.objs.size≤h'.objs.size→Q vs {sh with heap:=h',toks:=tk})→aC (aV prog w) A (collect r) Q E sh
def a9Q(hg:Gives prog w A.in1 sh r vs)(S:Sortable prog w A.in1.in1 sh.heap vs κ O key)(sj:vs.length<64)
  (q:∀(p:Array Nat) (h':bN) (tk e:Nat) (z:au),AllN vs.length p→UpTo key p vs.length→Kept sh.heap h'→sh.heap.objs.size≤z→h'.get? z=el (iH "list" (p.toList.map λi=>vs.getD i bz).toArray e)→Q (.ref z) {sh with heap:=h',toks:=tk}) :
  aC (aV prog w) A (call (.builtin "sorted") [r]) Q E sh:=by
 refine kF kind_sorted plain_sorted entry_sorted (args_sorted1 _) ?_;unfold Builtin.«sorted»;refine ab (m:=checkCount "sorted" 1 1 _) (ae ?_);refine ab (hg _ _ λh1 tk k1 z1=>?_);refine ab (xo ?_ (by rw[cQ];lia));have oL:(h1.push (iH "list" vs.toArray 0)).get? h1.objs.size=el (iH "list" vs.toArray 0):=aE _ rfl;refine ab (bJ (bB slot_list_sort ⟨_,oL,rfl⟩ entry_list_sort (b1S (sh:={sh with heap:=h1.push (iH "list" vs.toArray 0),toks:=tk}) S (k1.push _) z1 oL sj λp h' e hp hu hk hz ho=>⟨_,rfl,?_⟩) (args_list_sort _)));exact ae ⟨_,rfl,q p h' tk e h1.objs.size hp hu hk z1 ho⟩
def a7l(hl:sh.heap.IsList l vs.toArray)(hz:vs.length≤aS):Gives prog w A sh (.ref l) vs:=λE Q q=>
 PyProof.Rows.collect_list hl (q _ sh.toks (((Kept.refl _).push _).upd _ (aD _)) (by rw[rF,size_push'];exact eU _)) hz
def a7m(hh:A.handled=p4)(h0:(d==cR)=false)(hm:sh.heap.RawDict d rows ep)(hz:rows.size≤aS):Gives prog w A sh (.ref d) (rows.toList.map (·.key)):=λE Q q=>by
 have hd:d<sh.heap.objs.size:=let⟨_,hu,_⟩:=hm;aG hu
 have fin:∀(h':bN) (tk:Nat) (acc:Array ah) (c:Nat),(∀b o,b≠sh.heap.objs.size→(sh.heap.push {cls:=.type "list",data:=.seq ([]:List ah).toArray}).get? b=el o→h'.get? b=el o)→
   h'.get? sh.heap.objs.size=el {cls:=.type "list",dict:=p4,data:=.seq acc c,slots:=#[]}→ItemsOf (λi v=>∃e,rows[i]?=el e∧v=e.key) acc rows.size→Q acc.toList {sh with heap:=h',toks:=tk}:=by
  intro h' tk acc c hk hS ll;have e:acc.toList=rows.toList.map (·.key):=by
   refine jH λi=>?_
   rw[aU,bR,bR];by_cases c:i<rows.size
   ·obtain⟨x,hx⟩:∃x,acc[i]?=el x:=⟨_,bF (by rw[ll.1];exact c)⟩;obtain⟨y,h1,h2⟩:=ll.2 i x hx;rw[hx,h1,h2];rfl
   ·rw[dw (by rw[ll.1];lia),dw (by lia)];rfl
  rw[e];exact q h' tk (λb o x=>hk b o (a_ (aG x)) (af _ x)) (dE (aG hS))
 unfold collect;refine ab (mE (dP mC ?_));rw[cW oW _];show aC _ A.in1 (newList [] >>= λl=>again (.builtin "list.__iadd__" ⟨[l,.ref d],[]⟩)) _ _ sh;refine ab (dg (ae ⟨fm hZ _,dP nZ ?_⟩));rw[cW hZ _];show aC _ A.in1 (dq (.ref sh.heap.objs.size) (.ref d) (.ref sh.heap.objs.size)) _ _ _;refine cX (W.kdl_extend (A:=A) (s:={sh with heap:=sh.heap.push {cls:=.type "list",data:=.seq ([]:List ah).toArray}})
  (R:=λ(g:vY) (s':ai)=>∃(h':bN) (tk:Nat) (acc:Array ah) (c:Nat),g=.ok (.ret (.ref sh.heap.objs.size))∧s'={sh with heap:=h',toks:=tk}∧
   h'.get? sh.heap.objs.size=el {cls:=.type "list",dict:=p4,data:=.seq acc c,slots:=#[]}∧Q acc.toList {sh with heap:=h',toks:=tk})
  (a8r (ep:=ep) h0) hh (hm.at λo e=>af _ e) sh.heap.objs.size (dQ hd) (dQ hd) (.ref sh.heap.objs.size) 0 (aE _ rfl)
  (λh' tk acc c hk hS ll=>⟨h',tk,acc,c,rfl,rfl,hS,fin h' tk acc c hk hS ll⟩) hz) (λg s' x=>?_) λe s' x=>?_
 ·cases g with
  |done f=>
   obtain⟨h',tk,acc,c,e,rfl,hS,qq⟩:=x;cases e
   show aC _ A (load sh.heap.objs.size >>= _) _ _ _;exact ab (lK hS (ae qq))
  |again c₁=>
   refine⟨x.1,fK x.2 λg s₂ y=>?_⟩;obtain⟨h',tk,acc,c,rfl,rfl,hS,qq⟩:=y;show aC _ A (load sh.heap.objs.size >>= _) _ _ _;exact ab (lK hS (ae qq))
 ·obtain⟨_,_,_,_,e',_⟩:=x;cases e'
end
end VS
namespace VS
open PySem PySem.Spec L2
open PyProof.Rows (KeyOrd SortKind keyKind' keyLt' tuples' oneType' IntsAre oneLt')
open PySem.W (KatLex KatTups BoolBack)
def C7:List Int→List Int→Bool
 |[],[]=>false
 |[],_::_=>true
 |_::_,[]=>false
 |a::x,b::y=>if a=b then C7 x y else decide (a<b)
theorem a2w:∀a,C7 a a=false
 |[]=>rfl
 |a::x=>by rw[C7,aB rfl];exact a2w x
theorem Q5:∀a b,C7 a b=false→C7 b a=false→a=b
 |[],[],_,_=>rfl
 |[],_::_,h,_=>by cases h
 |_::_,[],_,h=>by cases h
 |a::x,b::y,h1,h2=>by
  rw[C7]at h1 h2;by_cases c:a=b
  ·subst c;rw[aB rfl]at h1 h2;rw[Q5 x y h1 h2]
  ·rw[aI c]at h1;rw[aI (λz=>c z.symm)]at h2;have:=xB h1;have:=xB h2;lia
theorem Q6:∀a b c,C7 a b=true→C7 b c=true→C7 a c=true
 |[],[],_,h,_=>by cases h
 |[],_::_,[],_,h=>by cases h
 |[],_::_,_::_,_,_=>rfl
 |_::_,[],_,h,_=>by cases h
 |_::_,_::_,[],_,h=>by cases h
 |a::x,b::y,c::z,h1,h2=>by
  rw[C7]at h1 h2 ⊢;by_cases e1:a=b
  ·subst e1;rw[aB rfl]at h1;by_cases e2:a=c
   ·rw[aB e2]at h2 ⊢;exact Q6 x y z h1 h2
   ·rw[aI e2]at h2 ⊢;exact h2
  ·rw[aI e1]at h1;have q1:=aN h1;by_cases e2:b=c
   ·subst e2;rw[aI e1];exact h1
   ·rw[aI e2]at h2;have q2:=aN h2;rw[aI (by lia)];exact aH (by lia)
def a9R(h:C7 a b=true):C7 b a=false:=by
 cases c:C7 b a with
 |false=>rfl
 |true=>rw[←a2w a,Q6 _ _ _ h c]
def b1T(a b c:List Int)(h:C7 a c=true):C7 a b=true∨C7 b c=true:=by
 cases h1:C7 a b with
 |true=>exact .inl rfl
 |false=>
  refine .inr ?_;cases h2:C7 b a with
  |true=>exact Q6 _ _ _ h2 h
  |false=>rw[←Q5 a b h1 h2];exact h
def OI:KeyOrd:=⟨List Int,C7,a2w,Q6,b1T,Q5⟩
def a7n(fin:Bool):List Int→List Int→Bool
 |n::ns,m::ms=>if n=m then a7n fin ns ms else decide (n<m)
 |_,_=>fin
theorem a8s:∀ns ms:List Int,a7n (decide (ns.length<ms.length)) ns ms=C7 ns ms
 |[],[]=>rfl
 |[],_::_=>by simp[a7n,C7]
 |_::_,[]=>by simp[a7n,C7]
 |n::ns,m::ms=>by
  rw[a7n,C7,←a8s ns ms];simp
def a9S(kt:Bool)(h:bN)(v:ah)(ns:List Int):Prop:=
 if kt then ∃a o xs m,v=.ref a∧h.get? a=el o∧o.cls=.type "tuple"∧o.data=.seq xs m∧IntsAre xs.toList ns else ∃n t,v=.int n t∧ns=[n]
def a1u(h:IntsAre vs ns):vs.length=ns.length:=by
 induction h with
 |nil=>rfl
 |cons _ _ _ ih=>rw[bh,bh,ih]
section
variable {prog:br}{w:bL}{A:bD}{s:ai}{Q:Bool→ai→Prop}
theorem b1U:∀{xs:List ah} {ns:List Int},IntsAre xs ns→∀{ys:List ah} {ms:List Int},IntsAre ys ms→∀(i:Nat) (b fin:Bool),Q (a7n fin ns ms) s→KatLex prog w A b fin Q (xs.zip ys) i s
 |_,_,.nil,_,_,_,_,_,_,q=>q
 |_,_,.cons _ _ _,_,_,.nil,_,_,_,q=>q
 |_,_,.cons n t hx,_,_,.cons m t' hy,i,b,fin,q=>by
  rw[dZ];refine W.kat_cons (wpAny_eqBool_int ?_);rw[a7n]at q;by_cases c:n=m
  ·rw[aB c]at q;rw[show (n==m)=true by simp[c]];exact W.kat_yes (b1U hx hy (i+1) b fin q)
  ·rw[aI c]at q;rw[show (n==m)=false by simp[c]];refine W.kat_no ?_;cases b&&i==0 with
   |true=>exact PyProof.Rows.oneLt_int q
   |false=>exact W.kat_one _ _ (wpAny_lt_int q)
theorem a8t:∀{vs:List ah} {nss:List (List Int)},vs.length=nss.length→(∀i,i<vs.length→a9S true h (vs.getD i bz) (nss.getD i []))→(∀i,i<vs.length→nss.getD i []≠[])→
  ∃fs,KatTups h vs fs∧fs.length=vs.length∧∀v∈fs,∃n t,v=gA n t
 |[],_,_,_,_=>⟨[],trivial,rfl,λ_ h=>(nomatch h)⟩
 |v::vs,[],hl,_,_=>by simp at hl
 |v::vs,ns::nss,hl,hv,gj=>by
  obtain⟨fs,h1,h2,h3⟩:=a8t (vs:=vs) (nss:=nss) (by simpa using hl) (λi hi=>by have:=hv (i+1) (by simpa using hi);simpa using this) λi hi=>by have:=gj (i+1) (by simpa using hi);simpa using this
  obtain⟨a,o,xs,m,e,ho,hc,hd,hx⟩:=(show a9S true h v ns from hv 0 (Fd _));have hn:ns≠[]:=gj 0 (Fd _);obtain⟨x,wy,n,t,CH⟩:∃x,xs[0]?=el x∧∃n t,x=gA n t:=by
   cases sI:xs.toList with
   |nil=>rw[sI]at hx;cases hx;exact absurd rfl hn
   |cons x r=>
    rw[sI]at hx;cases hx with
    |cons n t _=>exact⟨_,by rw[←bR,sI];rfl,n,t,rfl⟩
  refine⟨x::fs,⟨⟨a,o,xs,m,e,ho,hc,hd,wy⟩,h1⟩,by rw[bh,bh,h2],λy hy=>?_⟩;rcases az.mp hy with z|z
  ·rw[z];exact⟨n,t,CH⟩
  ·exact h3 y z
def a4S(x:a9S kt h v ns)(k:Kept h h'):a9S kt h' v ns:=by
 cases kt with
 |false=>exact x
 |true=>
  obtain⟨a,o,xs,m,e,ho,r⟩:=(show ∃a o xs m,v=.ref a∧h.get? a=el o∧o.cls=.type "tuple"∧o.data=.seq xs m∧IntsAre xs.toList ns from x);exact (show ∃a o xs m,v=.ref a∧h'.get? a=el o∧o.cls=.type "tuple"∧o.data=.seq xs m∧IntsAre xs.toList ns from⟨a,o,xs,m,e,k _ _ ho,r⟩)
def b5E(kt:Bool):nz:=if kt then tuples' true else oneType'
def a3o{vs:List ah}{nss:List (List Int)}(hl:vs.length=nss.length)(hv:∀i,i<vs.length→a9S kt h0 (vs.getD i bz) (nss.getD i []))
  (gj:kt=true→2≤vs.length→∀i,i<vs.length→nss.getD i []≠[]):Sortable prog w A h0 vs (b5E kt) OI (λi=>nss.getD i []) where
 kind:=λh2 s E Q hk q=>by
  cases kt with
  |false=>
   refine W.kas_kind (T:=dD "int") h2 (λv ub=>?_) rfl rfl q;obtain⟨i,hi⟩:=bM.mp ub;have hW:=(aP.mp hi).1;obtain⟨n,t,e,_⟩:=(show ∃n t,vs.getD i bz=.int n t∧nss.getD i []=[n] from hv i hW);rw[aM,hi]at e;cases e
   exact λA Q E s _ q=>ae q
  |true=>
   obtain⟨fs,h1,jh,h3⟩:=a8t hl (λi hi=>a4S (hv i hi) hk) (gj rfl h2);refine W.kat_kind (T:=dD "int") h1 (by lia) (λv ub=>?_) rfl q;obtain⟨n,t,rfl⟩:=h3 v ub;exact λA Q E s _ q=>ae q
 lt:=λs i j C hk hi hj q=>by
  have vi:=a4S (hv i hi) hk;have vj:=a4S (hv j hj) hk;cases kt with
  |false=>
   obtain⟨n,t,e1,e2⟩:=(show ∃n t,vs.getD i bz=.int n t∧nss.getD i []=[n] from vi);obtain⟨m,t',e3,e4⟩:=(show ∃n t,vs.getD j bz=.int n t∧nss.getD j []=[n] from vj);rw[e1,e3];refine W.kat_lt_int ?_;have q':C (C7 (nss.getD i []) (nss.getD j [])) s:=q;rw[e2,e4,C7]at q';by_cases c:n=m
   ·rw[aB c]at q';rw[show decide (n<m)=false from aR (by lia)];exact q'
   ·rw[aI c]at q';exact q'
  |true=>
   obtain⟨a,o,xs,k,e1,ho,hc,hd,hx⟩:=(show ∃a o xs m,vs.getD i bz=.ref a∧s.heap.get? a=el o∧o.cls=.type "tuple"∧o.data=.seq xs m∧IntsAre xs.toList (nss.getD i []) from vi);obtain⟨a',o',ys,k',e2,nJ,tE,km,hy⟩:=(show ∃a o xs m,vs.getD j bz=.ref a∧s.heap.get? a=el o∧o.cls=.type "tuple"∧o.data=.seq xs m∧IntsAre xs.toList (nss.getD j []) from vj);rw[e1,e2];refine W.kat_lt ho hd nJ km (b1U hx hy 0 true _ ?_);have z1:=a1u hx;have z2:=a1u hy;rw[bW]at z1 z2;rw[z1,z2,a8s];exact q
end
end VS
namespace VS
open PySem PySem.Spec L2
open PyProof.Rows (IntsAre seqObj)
def a9T(n:List Int):List (List Int)→List (List Int)
 |[]=>[n]
 |m::ms=>if C7 m n then m::a9T n ms else n::m::ms
def X1:List (List Int)→List (List Int)
 |[]=>[]
 |n::ns=>a9T n (X1 ns)
def leL(a b:List Int):Prop:=C7 b a=false
def a9U(h1:leL a b)(h2:leL b c):leL a c:=PyProof.Rows.KeyOrd.kle_trans (O:=OI) h1 h2
theorem a0V(n:List Int):∀ms,(a9T n ms).Perm (n::ms)
 |[]=>et _
 |m::ms=>by
  unfold a9T;by_cases c:C7 m n=true
  ·rw[aB c];exact ((a0V n ms).cons m).trans (qf n m ms)
  ·rw[aI c]
theorem D0:∀ns,(X1 ns).Perm ns
 |[]=>et _
 |n::ns=>(a0V n (X1 ns)).trans ((D0 ns).cons n)
theorem a1v(n:List Int):∀ms:List (List Int),ms.Pairwise leL→(a9T n ms).Pairwise leL
 |[],_=>sA ..
 |m::ms,h=>by
  unfold a9T;obtain⟨h1,h2⟩:=d_.mp h;by_cases c:C7 m n=true
  ·rw[aB c];refine d_.mpr ⟨λx hx=>?_,a1v n ms h2⟩;rcases az.mp ((a0V n ms).mem_iff.mp hx) with z|z
   ·rw[z];exact a9R c
   ·exact h1 x z
  ·rw[aI c];have Al:leL n m:=by simpa[leL]using c
   refine d_.mpr ⟨λx hx=>?_,h⟩;rcases az.mp hx with z|z
   ·rw[z];exact Al
   ·exact a9U Al (h1 x z)
theorem U0:∀ns:List (List Int),(X1 ns).Pairwise leL
 |[]=>ik
 |n::ns=>a1v n _ (U0 ns)
def a9V{a b:List (List Int)}(hp:a.Perm b)(ha:a.Pairwise leL):a=X1 b:=
 rE (λx y _ _ h1 h2=>Q5 _ _ h2 h1) ha (U0 b) (hp.trans (D0 b).symm)
def kD(kt:Bool)(ns:List Int):D:=if kt then .tuple (ns.map .int) else .int (ns.headD 0)
def b7t(kt:Bool):D→Option (List Int)
 |.int n=>if kt then p4 else el [n]
 |.tuple ds=>if kt then intsOf ds else p4
 |_=>p4
def a2x(kt:Bool):List D→Option (List (List Int))
 |[]=>el []
 |d::ds=>(b7t kt d).bind λns=>(a2x kt ds).bind λr=>el (ns::r)
def okK(kt:Bool)(nss:List (List Int)):Bool:=decide (nss.length<64)&&(!kt||decide (nss.length<2)||nss.all λns=>!ns.isEmpty)
def a2y(kt:Bool)(ks:List D):Option D:=(a2x kt ks).bind λnss=>if okK kt nss then el (.list ((X1 nss).map (kD kt))) else p4
def a9W(h:b7t kt d=el ns):d=kD kt ns∧(kt=false→ns.length=1):=by
 cases d with
 |int n=>
  cases kt with
  |true=>cases h
  |false=>cases h;exact⟨rfl,λ_=>rfl⟩
 |tuple ds=>
  cases kt with
  |false=>cases h
  |true=>
   have h':intsOf ds=el ns:=h;cases C9 h'
   exact⟨rfl,λz=>by cases z⟩
 |_=>cases h
theorem Z0:∀{ds:List D} {nss:List (List Int)},a2x kt ds=el nss→ds=nss.map (kD kt)∧(kt=false→∀ns∈nss,ns.length=1)
 |[],nss,h=>by cases h;exact⟨rfl,λ_ _ z=>(nomatch z)⟩
 |d::ds,nss,h=>by
  obtain⟨ns,h1,h⟩:=bnd (show (b7t kt d).bind _=el nss from h);obtain⟨r,h2,h3⟩:=bnd h;cases h3
  obtain⟨e1,e2⟩:=a9W h1;obtain⟨e3,e4⟩:=Z0 h2;refine⟨by rw[aA,←e1,←e3],λz x hx=>?_⟩;rcases az.mp hx with y|y
  ·rw[y];exact e2 z
  ·exact e4 z x y
def b7u(kt:Bool)(ns:List Int):imm (kD kt ns)=true:=by
 cases kt with
 |false=>simp only[kD,cg,dX,imm]
 |true=>simp only[kD,gT,imm];exact b4n ns
theorem a4T(kt:Bool):∀nss:List (List Int),f6 (nss.map (kD kt))=true
 |[]=>by simp only[cU,f6]
 |ns::nss=>by simp only[aA,f6,b7u,a4T kt nss,fV]
def M5:∀{ns:List Int} {xs:List V},DenAll K H xs (ns.map .int)→xs=ns.map V.int:=by
 intro ns
 induction ns with
 |nil=>intro xs h;exact h.nil_inv
 |cons n ns ih=>
  intro xs h;obtain⟨v,r,rfl,h1,h2⟩:=h.cons_inv;rw[h1.int_inv,ih h2];rfl
section
variable {X:Cx}{pins:List (au×fD)}{σ:L2.St}{H:Hp}{s:ai}
def b4s(I:Inv X pins σ H s)(h:Den X.K H v (kD kt ns))(r:RelV v u)(h1:kt=false→ns.length=1):a9S kt s.heap u ns:=by
 cases kt with
 |false=>
  have h':Den X.K H v (.int (ns.headD 0)):=h;rw[h'.int_inv]at r;obtain⟨t,rfl⟩:=r;refine (show ∃n t',gA (ns.headD 0) t=.int n t'∧ns=[n] from⟨_,_,rfl,?_⟩)
  match ns,h1 rfl with
  |[n],_=>rfl
 |true=>
  have h':Den X.K H v (.tuple (ns.map .int)):=h;obtain⟨a,xs,rfl,h2,h3⟩:=h'.tup_inv;cases M5 h3
  cases (show u=aW a from r)
  obtain⟨cJ,rv,⟨o,ho,hc,n,hd⟩,_⟩:=I.tuple h2;exact (show ∃a' o xs m,aW a=.ref a'∧s.heap.get? a'=el o∧o.cls=.type "tuple"∧o.data=.seq xs m∧IntsAre xs.toList ns from⟨a,o,cJ.toArray,n,rfl,ho,hc,hd,by simpa using V7 rv⟩)
def b4t{key:Nat→List Int}{p:Array Nat}(hp:AllN N p)(hu:UpTo (O:=OI) key p N):(p.toList.map key).Pairwise leL:=by
 rw[qG];intro i j hi hj oF;rw[ar,bW,hp.size]at hi hj;have z:=hu i j (dE oF) hj;have e:∀k (hk:k<N),kyP (O:=OI) key p k=(p.toList.map key)[k]'(by rw[ar,bW,hp.size];exact hk):=λk hk=>by
  have oU:k<p.size:=by rw[hp.size];exact hk
  simp only[kyP,iG,Array.getElem_toList]
  congr 1;simp[zq,oU]
 rw[e i hi,e j hj]at z;exact z
def X5:∀{l:List α} {p:List Nat},p.Perm (aX l.length)→(p.map λi=>l.getD i d).Perm l:=by
 intro l p h;refine (h.map _).trans (Gp ?_);refine jH λi=>?_
 rw[aU];by_cases c:i<l.length
 ·rw[lV c,Gg,ak c,aM,ak c];rfl
 ·rw[dY (by simpa using c),dY (by simpa using c)];rfl
def sorted_out{nss:List (List Int)}(I:Inv X pins σ H s)(hg:Gives X.prog X.w X.A.in1 s r us)(rv:Vals xs us)(hd:DenAll X.K H xs (nss.map (kD kt)))
  (h1:kt=false→∀ns∈nss,ns.length=1) (hk:okK kt nss=true) (q:∀z out,H z=p4→DenAll X.K H out ((X1 nss).map (kD kt))→Q (.ref z) (upd H z (.lst out))) :
  aC (aV X.prog X.w) X.A (call (.builtin "sorted") [r]) (EP X pins σ Q) X.xe s:=by
 have hlen:xs.length=nss.length:=by rw[hd.length,ar]
 have zX:us.length=nss.length:=by rw[←rv.length];exact hlen
 rw[okK,av]at hk;have sj:nss.length<64:=aN hk.1;have rel:∀i,i<us.length→RelV (xs.getD i .non) (us.getD i bz)∧Den X.K H (xs.getD i .non) (kD kt (nss.getD i [])):=λi hi=>by
  have jJ:i<nss.length:=by lia
  have e1:(nss.map (kD kt))[i]?=el (kD kt (nss.getD i [])):=by rw[aU,ak jJ,aM,ak jJ];rfl
  obtain⟨v,hv,dv⟩:=hd.get e1;obtain⟨u,hu,ru⟩:=rv.get hv;rw[aM,hv,aM,hu];exact⟨ru,dv⟩
 refine a9Q (κ:=b5E kt) (O:=OI) (key:=λi=>nss.getD i []) hg (a3o zX (λi hi=>b4s I (rel i hi).2 (rel i hi).1 λz=>?_) λDu h2 i hi=>?_) (by lia) λp h' tk e z hp hu yu hz ho=>?_
 ·have jJ:i<nss.length:=by lia
  rw[aM,ak jJ];exact h1 z _ (cG jJ)
 ·have jJ:i<nss.length:=by lia
  have hb:=hk.2;rw[Du]at hb;have jh:¬ nss.length<2:=by lia
  simp only[iK,rJ,aR jh,bj,fF,List.isEmpty_eq_false_iff]at hb;rw[aM,ak jJ];exact hb _ (cG jJ)
 ·rw[zX]at hp hu;have oG:H z=p4:=I.hok.fresh hz;have fJ:p.toList.length=nss.length:=by rw[hp.length_eq,gc]
  have hv:Vals (p.toList.map λi=>xs.getD i .non) (p.toList.map λi=>us.getD i bz):=by
   refine a0o (by rw[ar,ar]) λi x u g1 g2=>?_
   rw[aU]at g1 g2;obtain⟨j,j1,rfl⟩:=cS.mp g1;rw[j1]at g2;cases g2
   have:j∈aX nss.length:=hp.mem_iff.mp (bo j1);exact (rel j (by have:=b_.mp this;lia)).1
  refine⟨.ref z,_,I.laid (a:=z) (o:=.lst (p.toList.map λi=>xs.getD i .non)) (t':=tk) yu hz ⟨by rw[ar,fJ,cQ];lia,_,e,hv,ho⟩,rfl,q z _ oG ?_⟩;rw[←a9V (a:=p.toList.map λi=>nss.getD i []) (X5 hp) (b4t hp hu),bO];have:∀l:List Nat,(∀j∈l,j<nss.length)→DenAll X.K H (l.map λi=>xs.getD i .non) (l.map (kD kt ∘ λi=>nss.getD i [])):=by
   intro l
   induction l with
   |nil=>intro _;exact denAll_nil
   |cons j l ih=>intro hj;exact denAll_cons (rel j (by have:=hj j aj;lia)).2 (ih λk hk=>hj k (aq _ hk))
  exact this _ λj hj=>b_.mp (hp.mem_iff.mp hj)
end
section
variable {X:Cx}{M:List Md}{a:Expr}{fa:EvE}{ca:Cat}{pos p:ff}
def a7o(hc:X.calm=true)(kt:Bool):CallR X (.builtin "sorted") (λxs H Q=>∃p es nss,xs=[.ref p]∧H p=el (c6 p es)∧DenAll X.K H (es.map (·.2.1)) (nss.map (kD kt))∧(kt=false→∀ns∈nss,ns.length=1)∧okK kt nss=true∧∀z out,H z=p4→DenAll X.K H out ((X1 nss).map (kD kt))→Q (.ref z) (upd H z (.lst out))):=by
 intro pins s σ H xs us Q I rv h;obtain⟨p,es,nss,rfl,hH,hd,h1,hk,q⟩:=h;obtain⟨u,rfl,rx⟩:=vals1 rv;cases (show u=aW p from rx)
 obtain⟨h0,hl,hn,o,ents,ep,g1,g2,g3,g4⟩:=m8 I hH;refine sorted_out I (a7m (by simpa using I.ok.hd hc) h0 ⟨o,g1,g2,g3⟩ (by have z:=cM g4;have z2:ents.toList.length=ents.size:=bW;lia)) ?_ hd h1 hk q;have:∀{es:List (D×V×V)} {l:List eA},eO K2 es l→Vals (es.map (·.2.1)) (l.map (·.key)):=by
  intro es l h
  induction h with
  |nil=>exact .nil
  |cons r _ ih=>exact .cons r.2.1 ih
 exact this g4
def a7p(kt:Bool):CallR X (.builtin "sorted") (λxs H Q=>∃p ys nss,xs=[.ref p]∧SqX X.K H p ys∧DenAll X.K H ys (nss.map (kD kt))∧(kt=false→∀ns∈nss,ns.length=1)∧okK kt nss=true∧∀z out,H z=p4→DenAll X.K H out ((X1 nss).map (kD kt))→Q (.ref z) (upd H z (.lst out))):=by
 intro pins s σ H xs us Q I rv h;obtain⟨p,ys,nss,rfl,hp,hd,h1,hk,q⟩:=h;obtain⟨u,rfl,rx⟩:=vals1 rv;cases (show u=aW p from rx)
 obtain⟨hz,cJ,n,qg,ho⟩:=hp.ok I;exact sorted_out I (a7l ⟨_,ho,rfl,n,rfl⟩ (by rw[←qg.length];exact hz)) qg hd h1 hk q
def b1V:D→Option (List D)
 |.dict kvs=>el (kvs.map (·.1))
 |_=>p4
noncomputable def H9(kt:Bool)(a:EvE):EvE:=λρ=>(a ρ).bind λd=>(b1V d).bind (a2y kt)
noncomputable def a4U(kt:Bool)(a:EvE):EvE:=λρ=>(a ρ).bind λd=>(asL d).bind (a2y kt)
theorem M6:∀{kvs:List (D×D)} {es:List (D×V×V)},DenKV K H es kvs→DenAll K H (es.map (·.2.1)) (kvs.map (·.1))
 |[],es,h=>by
  simp only[DenKV]at h;subst h;exact denAll_nil
 | (k,d)::r,es,h=>by
  simp only[DenKV]at h;obtain⟨e,q,rfl,h2,h3,h4,h5⟩:=h;exact denAll_cons h3 (M6 h5)
def a2z(kt:Bool)(hc:X.calm=true)(hm:X.mg "sorted"=p4)(ha:PX X M a fa ca)(hg:Gl X "sorted":=by rfl)(he:aw [a] X.env=(false,cy a X.env)::aw [] X.env:=by rfl)(fJ:(cx pos (aw [] X.env)).any (·.1)=false:=by rfl) :
  PX X M (.Call (.Name "sorted" p) [a] [] pos) (H9 kt fa) (.new (.l .i)):=by
 obtain⟨ta,pa,qa⟩:=ha.out;refine .mk ⟨_,K1 (a7o hc kt) hg hm PyProof.Rows.Boot.«sorted» (l5 pa p0 he) (by decide) (by decide) he fJ,λρ σ H P F d Q S hf q=>?_⟩;obtain⟨x,h1,g1⟩:=bnd hf;obtain⟨ks,h2,g2⟩:=bnd g1;obtain⟨nss,h3,g3⟩:=bnd (show (a2x kt ks).bind _=el d from g2);obtain⟨e1,e2⟩:=Z0 h3;by_cases c:okK kt nss=true
 ·rw[aB c]at g3;cases g3
  cases x with
  |dict kvs=>
   cases h2
   refine qa ρ σ H P F _ _ S h1 λv H1 w1 r1=>?_
   obtain⟨pp,es,rfl,k1,k2⟩:=r1.den.dict_inv;refine⟨pp,es,nss,rfl,k1,by rw[←e1];exact M6 k2,e2,c,λz out hz ho=>q _ _ (w1.trans (k6 hz _)) ?_⟩;exact F5 ho (a4T kt _) w1 hz (S.lst' w1)
  |_=>cases h2
 ·rw[aI c]at g3;cases g3
def b1W(kt:Bool)(hm:X.mg "sorted"=p4)(ha:PX X M a fa ca)(hg:Gl X "sorted":=by rfl)(he:aw [a] X.env=(false,cy a X.env)::aw [] X.env:=by rfl)(fJ:(cx pos (aw [] X.env)).any (·.1)=false:=by rfl) :
  PX X M (.Call (.Name "sorted" p) [a] [] pos) (a4U kt fa) (.new (.l .i)):=by
 obtain⟨ta,pa,qa⟩:=ha.out;refine .mk ⟨_,K1 (a7p kt) hg hm PyProof.Rows.Boot.«sorted» (l5 pa p0 he) (by decide) (by decide) he fJ,λρ σ H P F d Q S hf q=>?_⟩;obtain⟨x,h1,g1⟩:=bnd hf;obtain⟨ks,h2,g2⟩:=bnd g1;obtain⟨nss,h3,g3⟩:=bnd (show (a2x kt ks).bind _=el d from g2);obtain⟨e1,e2⟩:=Z0 h3;by_cases c:okK kt nss=true
 ·rw[aB c]at g3;cases g3
  cases G0 h2
  refine qa ρ σ H P F _ _ S h1 λv H1 w1 r1=>?_
  obtain⟨pp,ys,rfl,k1,k2⟩:=r1.den.list_inv;refine⟨pp,ys,nss,rfl,k1,by rw[←e1];exact k2,e2,c,λz out hz ho=>q _ _ (w1.trans (k6 hz _)) ?_⟩;exact F5 ho (a4T kt _) w1 hz (S.lst' w1)
 ·rw[aI c]at g3;cases g3
end
end VS
namespace VS
open PySem PySem.Spec L2
section
variable {K:ag}{H:Hp}{F:List au}{kt:Bool}{u:Ty}
def G6(nv:a∈F)(o:HO):Same (cut H F) (cut (upd H a o) F):=λb o' hb=>by
 obtain⟨n1,n2⟩:=o6 hb;exact j5 n1 (by rw[f7 (show b≠a from λz=>n1 (z▸nv))];exact n2)
def b1X(o:Own K H F (.d kt u) (.ref a) (.dict kvs) f)(q_:∀b∈f,b∈F)(jl:(fv++f).Nodup)(hk:keyOk kt k)(vm:Den K (cut H F) kv k)(ov:Own K H F u v d fv) :
  ∃es,H a=el (c6 a es)∧(∀e∈es,keyOk kt e.1∧Den K (cut H F) e.2.1 e.1)∧es.length=kvs.length∧a∈f∧∃f',Own K (upd H a (c6 a (O3 es k kv v))) F (.d kt u) (.ref a) (.dict (n8 kvs k d)) f'∧∀b,f'.count b≤f.count b+fv.count b:=by
 obtain⟨a',es,ds,fs,ea,r2,r3,rfl,r5,r6,hl,hn⟩:=o.dict;cases ea
 injection r3 with r3
 subst r3;have nv:a∈F:=q_ a aj;have fB:∀o,Same (cut H F) (cut (upd H a o) F):=G6 nv;have cnt:fs.count a=0∧fv.count a=0:=by
  have:=cI.mp jl a;simp only[bc,gy]at this;exact⟨by lia,by lia⟩
 have kk:∀(l:List au) (o:HO),l.count a=0→∀b∈l,upd H a o b=H b:=λl o hc b hb=>f7 λz=>by
  subst z;rw[dH]at hc;exact hc hb
 have iA:∀e∈es,aJ e.1 k=true↔e.1=k:=λe he=>A1 e.1 k (r5 e he).1.1 hk.1
 have hlen:es.length=((es.map (·.1)).zip ds).length:=by rw[dS,ar,hl,kE]
 refine⟨es,r2,r5,hlen,aj,?_⟩;have fin:∀(eX:List (D×V×V)) (iw:List D) (jZ:List au),(eX.map (·.1)).Nodup→(∀e∈eX,keyOk kt e.1∧Den K (cut H F) e.2.1 e.1)→ListAll (Own K (upd H a (c6 a eX)) F u) (eX.map (·.2.2)) iw jZ→(∀b,jZ.count b≤fs.count b+fv.count b)→
   ∃f',Own K (upd H a (c6 a eX)) F (.d kt u) (.ref a) (.dict ((eX.map (·.1)).zip iw)) f'∧∀b,f'.count b≤(a::fs).count b+fv.count b:=λeX iw jZ sU oU ha nN=>by
  refine⟨a::jZ,?_,λb=>?_⟩
  ·simp only[Own];exact⟨a,eX,iw,jZ,rfl,i6,rfl,rfl,⟨sU,λe he=>⟨(oU e he).1,(oU e he).2.up (fB _)⟩⟩,ha⟩
  ·have:=nN b;simp only[du];lia
 cases hf:r8 es k with
 |false=>
  rw[a2p hf,a3J (by rw[v8 hl];exact hf),←T9 (kv:=kv) (v:=v) hl];refine fin (es++[(k,kv,v)]) (ds++[d]) (fs++fv) ?_ ?_ ?_ λb=>by rw[bc];exact aD _
  ·rw[aT,aZ];refine⟨hn,by simp,λx hx y hy e=>?_⟩;simp only[aA,cU,ao]at hy;subst hy;subst e;obtain⟨e,he,rfl⟩:=aY.mp hx;unfold r8 at hf;rw[cB]at hf;exact hf e he ((iA e he).mpr rfl)
  ·intro e he;rcases aF.mp he with z|z
   ·exact r5 e z
   ·rw[ao.mp z];exact⟨hk,vm⟩
  ·rw[aT];refine (l7 (fB _) r6 (kk _ _ cnt.1)).append ?_;have:=k9 (R:=Own K (upd H a (c6 a (es++[(k,kv,v)]))) F u) (ov.frame (fB _) u (kk _ _ cnt.2)) m3
   rwa[bE]at this
 |true=>
  have hh:=hf;unfold r8 at hf;rw[cZ]at hf;obtain⟨e,he,fH⟩:=hf;have pJ:=(iA e he).mp fH;obtain⟨j,hj⟩:=bM.mp he;have ue:j<ds.length:=by rw[hl];exact (aP.mp hj).1
  have nI:O3 es k kv v=es.map λe=>if aJ e.1 k then (e.1,e.2.1,v) else e:=by unfold O3;rw[hh];rfl
  have mP:n8 ((es.map (·.1)).zip ds) k d=(es.map (·.1)).zip (ds.set j d):=by
   unfold n8;rw[v8 hl,hh];exact M4 (v:=v) hl iA hn hj pJ
  have mQ:(O3 es k kv v).map (·.1)=es.map (·.1):=by rw[nI];exact a0k
  rw[mP,←mQ];obtain⟨w3,f3,a1,a2,s1,s2,pV,s4⟩:=r6.zip (ak ue);have pA:(O3 es k kv v).map (·.2.2)=(es.map (·.2.2)).set j v:=by
   rw[nI];exact a2r hn iA hj pJ
  refine fin (O3 es k kv v) (ds.set j d) (a1++(fv++a2)) (by rw[mQ];exact hn) ?_ ?_ λb=>by rw[pV];simp only[bc];lia
  ·intro e' kL;rw[nI]at kL;obtain⟨e0,s_,rfl⟩:=aY.mp kL
   split
   ·exact r5 e0 s_
   ·exact r5 e0 s_
  ·rw[pA];have c5:(a1++a2).count a=0:=by have:=cnt.1;rw[pV]at this;simp only[bc]at this ⊢;lia
   exact s4 _ F v d fv (kk _ _ c5) (fB _) (ov.frame (fB _) u (kk _ _ cnt.2))
def StR.dval(S:StR K M ρ σ H P F)(hm:M[i]?=el (.own (.d kt u)))(hk:keyOk kt k) :
  ∃a0 es ds,σ[i]?=el (el (.ref a0))∧H a0=el (c6 a0 es)∧ρ.getD i .none=.dict ((es.map (·.1)).zip ds)∧ds.length=es.length∧(∀e∈es,keyOk kt e.1∧Den K (cut H F) e.2.1 e.1)∧(es.map (·.1)).Nodup∧
   ∀e∈es,e.1=k→∃d f,y7 ((es.map (·.1)).zip ds) k=el d∧Own K H F u e.2.2 d f∧f.Nodup∧(∀b∈f,b∈F)∧
    ∀(H':Hp) (a:au) (o':MuO) (d':D) (f':List au),Same H H'→a∈f→Own K (upd H' a o'.1) F u e.2.2 d' f'→(∀b,f'.count b≤f.count b)→StR K M (ρ.set i (.dict (n8 ((es.map (·.1)).zip ds) k d'))) σ (upd H' a o'.1) P F:=by
 obtain⟨G,h1,h2,h3⟩:=S.all;obtain⟨dd,oo,f,pre,post,q1,q2,⟨v2,rfl,q3⟩,rfl,q5⟩:=h1.at_ hm;obtain⟨a0,es,ds,fs,rfl,r2,r3,rfl,r5,r6,hl,hn⟩:=q3.dict;refine⟨a0,es,ds,q2,r2,by rw[z8 q1];exact r3,hl,r5,hn,λe he fH=>?_⟩;have iA:∀e∈es,aJ e.1 k=true↔e.1=k:=λe he=>A1 e.1 k (r5 e he).1.1 hk.1
 obtain⟨j,hj⟩:=bM.mp he;have ue:j<ds.length:=by rw[hl];exact (aP.mp hj).1
 obtain⟨w3,f3,a1,a2,s1,s2,pV,s4⟩:=r6.zip (ak ue);have hw:w3=e.2.2:=by rw[aU,hj]at s1;exact (aK s1).symm
 subst hw;have cnt:∀b,b∈f3→(pre++post).count b=0∧b≠a0∧(a1++a2).count b=0∧f3.count b=1:=λb hb=>by
  have z:=cI.mp h2 b;have z2:=dm.mpr hb;rw[pV]at z;simp only[bc,bx,du]at z ⊢;refine⟨by lia,λe=>?_,by lia,by lia⟩;subst e;simp only[fL,gT]at z;lia
 have q_:∀b∈f3,b∈F:=λb hb=>h3 b (by rw[pV];simp[hb])
 refine⟨ds[j],f3,a0l hl iA hn hj fH (ak ue),s2,?_,q_,λH' a o' d' f' gr ha o hc=>?_⟩
 ·refine cI.mpr λb=>?_
  by_cases c:b∈f3
  ·rw[(cnt b c).2.2.2];exact aD _
  ·rw[dH.mpr c];exact bI _
 ·obtain⟨c1,c2,c3,c4⟩:=cnt a ha;have nv:=q_ a ha;have fB:Same (cut H F) (cut (upd H' a o'.1) F):=(A2 gr).trans (G6 nv _);have kk:∀(l:List au),l.count a=0→(∀b∈l,b∈F)→∀b∈l,upd H' a o'.1 b=H b:=λl hc yr b hb=>by
   rw[f7 λz=>?_]
   ·exact S.toE.keep gr b (yr b hb)
   ·subst z;rw[dH]at hc;exact hc hb
  have mP:n8 ((es.map (·.1)).zip ds) k d'=(es.map (·.1)).zip (ds.set j d'):=by
   unfold n8;rw[v8 hl,show r8 es k=true from cZ.mpr ⟨e,he,(iA e he).mpr fH⟩];exact M4 (v:=V.non) hl iA hn hj fH
  have xV:(es.map (·.2.2)).set j e.2.2=es.map (·.2.2):=set_same (by rw[aU,hj];rfl);have o1:Own K (upd H' a o'.1) F (.d kt u) (.ref a0) (.dict ((es.map (·.1)).zip (ds.set j d'))) (a0::(a1++(f'++a2))):=by
   simp only[Own];refine⟨a0,es,ds.set j d',_,rfl,by rw[f7 (dN c2)];exact gr _ _ r2,rfl,rfl,⟨hn,λe he=>⟨(r5 e he).1,(r5 e he).2.up fB⟩⟩,?_⟩;have:=s4 (upd H' a o'.1) F e.2.2 d' f' (kk _ c3 λb hb=>h3 b (by rw[pV];rcases aF.mp hb with z|z<;>simp[z])) fB o;rw[xV]at this;exact this
  have q:=q5 (upd H' a o'.1) F (.own (.d kt u)) (.dict ((es.map (·.1)).zip (ds.set j d'))) (el (.ref a0)) _ (kk _ c1 λb hb=>h3 b (mem_mid hb)) fB ⟨_,rfl,o1⟩;rw[set_same (l:=σ) q2,set_same (l:=M) hm]at q;rw[mP];refine⟨⟨_,q,O0 h2 λb=>?_,λb hb=>?_⟩,λb hb=>?_,S.prot.trans fB⟩
  ·have:=hc b;rw[pV];simp only[bc,bx,du];lia
  ·have hp:0<(pre++(a0::fs++post)).count b:=by
    have h0:=dm.mpr hb;have:=hc b;rw[pV];simp only[bc,bx,du]at h0 ⊢;lia
   exact h3 b (dm.mp hp)
  ·by_cases e:b=a
   ·subst e;exact⟨o',i6⟩
   ·obtain⟨ys,y⟩:=S.lst b hb;exact⟨ys,by rw[f7 e];exact gr _ _ y⟩
def Pend.dnew(h:Pend K ([]++[.own u]) ([]++[d]) ([]++[el v]) M ρ σ H P F)(hm:M[i]?=el (.own (.d kt u)))(hk:keyOk kt k)(vk:Den K H kv k) :
  ∃a0 es ds fv,σ[i]?=el (el (.ref a0))∧H a0=el (c6 a0 es)∧ρ.getD i .none=.dict ((es.map (·.1)).zip ds)∧ds.length=es.length∧(∀e∈es,keyOk kt e.1∧Den K (cut H F) e.2.1 e.1)∧(es.map (·.1)).Nodup∧Own K H F u v d fv∧fv.Nodup∧(∀b∈fv,b∈F∧b≠a0)∧
   (r8 es k=false→∀(H':Hp) (a:au) (o':MuO) (d':D) (f':List au),Same (upd H a0 (c6 a0 (es++[(k,kv,v)]))) H'→a∈fv→Own K (upd H' a o'.1) F u v d' f'→(∀b,f'.count b≤fv.count b)→
    StR K M (ρ.set i (.dict ((es.map (·.1)).zip ds++[(k,d')]))) σ (upd H' a o'.1) P F):=by
 obtain⟨_,_,S⟩:=h;obtain⟨G,h1,h2,h3⟩:=S.all;have lx:StAll K H F (.own u::M) (d::ρ) (el v::σ) G:=by simpa using h1
 simp only[StAll]at lx;obtain⟨d0,ρ',Fu,σ',fv,G2,e1,e2,rfl,⟨v',e3,ov⟩,h5⟩:=lx;cases e1
 cases e2
 cases e3
 obtain⟨dd,oo,f,pre,post,q1,q2,⟨v2,rfl,q3⟩,rfl,q5⟩:=h5.at_ hm;obtain⟨a0,es,ds,fs,rfl,r2,r3,rfl,r5,r6,hl,hn⟩:=q3.dict;have wL:a0∈F:=h3 a0 (by simp);have vm:Den K (cut H F) kv k:=vk.imm_out S.lst k (T3 _ hk.1);have iA:∀e∈es,aJ e.1 k=true↔e.1=k:=λe he=>A1 e.1 k (r5 e he).1.1 hk.1
 have cnt:∀b,b∈fv→(pre++post).count b=0∧b≠a0∧fs.count b=0∧fv.count b=1:=λb hb=>by
  have z:=cI.mp h2 b;have z2:=dm.mpr hb;simp only[bc,bx,du]at z ⊢;refine⟨by lia,λe=>?_,by lia,by lia⟩;subst e;simp only[fL,gT]at z;lia
 have vV:(pre++post).count a0=0∧fs.count a0=0:=by
  have z:=cI.mp h2 a0;simp only[bc,bx,gy]at z ⊢;exact⟨by lia,by lia⟩
 refine⟨a0,es,ds,fv,q2,r2,by rw[z8 q1];exact r3,hl,r5,hn,ov,?_,λb hb=>⟨h3 b (by simp[hb]),(cnt b hb).2.1⟩,λhf H' a o' d' f' gr ha o hc=>?_⟩
 ·refine cI.mpr λb=>?_
  by_cases c:b∈fv
  ·rw[(cnt b c).2.2.2];exact aD _
  ·rw[dH.mpr c];exact bI _
 ·obtain⟨c1,c2,c3,c4⟩:=cnt a ha;have nv:a∈F:=h3 a (by simp[ha]);have fB:Same (cut H F) (cut (upd H' a o'.1) F):=((G6 wL _).trans (A2 gr)).trans (G6 nv _);have kk:∀(l:List au),l.count a=0→l.count a0=0→(∀b∈l,b∈F)→∀b∈l,upd H' a o'.1 b=H b:=λl hc wJ yr b hb=>by
   have n1:b≠a:=λz=>by subst z;rw[dH]at hc;exact hc hb
   have n0:b≠a0:=λz=>by subst z;rw[dH]at wJ;exact wJ hb
   rw[f7 n1];obtain⟨ys,q⟩:=S.lst b (yr b hb);rw[q];exact gr _ _ (by rw[f7 n0];exact q)
  have wD:upd H' a o'.1 a0=el (c6 a0 (es++[(k,kv,v)])):=by rw[f7 (dN c2)];exact gr _ _ i6
  have o1:Own K (upd H' a o'.1) F (.d kt u) (.ref a0) (.dict (((es++[(k,kv,v)]).map (·.1)).zip (ds++[d']))) (a0::(fs++f')):=by
   simp only[Own];refine⟨a0,es++[(k,kv,v)],ds++[d'],_,rfl,wD,rfl,rfl,⟨?_,λe he=>?_⟩,?_⟩
   ·rw[aT,aZ];refine⟨hn,by simp,λx hx y hy e=>?_⟩;simp only[aA,cU,ao]at hy;subst hy;subst e;obtain⟨e,he,rfl⟩:=aY.mp hx;unfold r8 at hf;rw[cB]at hf;exact hf e he ((iA e he).mpr rfl)
   ·rcases aF.mp he with z|z
    ·exact⟨(r5 e z).1,(r5 e z).2.up fB⟩
    ·rw[ao.mp z];exact⟨hk,vm.up fB⟩
   ·rw[aT];refine (l7 fB r6 (kk _ c3 vV.2 λb hb=>h3 b (by simp[hb]))).append ?_;have:=k9 (R:=Own K (upd H' a o'.1) F u) o m3
    rwa[bE]at this
  rw[T9 (kv:=kv) (v:=v) hl]at o1;have q:=q5 (upd H' a o'.1) F (.own (.d kt u)) (.dict ((es.map (·.1)).zip ds++[(k,d')])) (el (.ref a0)) _ (kk _ c1 vV.1 λb hb=>h3 b (ax _ (mem_mid hb))) fB ⟨_,rfl,o1⟩;rw[set_same (l:=σ) q2,set_same (l:=M) hm]at q;refine⟨⟨_,q,O0 h2 λb=>?_,λb hb=>?_⟩,λb hb=>?_,S.prot.trans fB⟩
  ·have:=hc b;simp only[bc,bx,du];lia
  ·have hp:0<(fv++(pre++(a0::fs++post))).count b:=by
    have h0:=dm.mpr hb;have:=hc b;simp only[bc,bx,du]at h0 ⊢;lia
   exact h3 b (dm.mp hp)
  ·by_cases e:b=a
   ·subst e;exact⟨o',i6⟩
   ·by_cases e0:b=a0
    ·subst e0;exact⟨⟨c6 b (es++[(k,kv,v)]),trivial⟩,wD⟩
    ·obtain⟨ys,y⟩:=S.lst b hb;exact⟨ys,by rw[f7 e];exact gr _ _ (by rw[f7 e0];exact y)⟩
def StR.ded(S:StR K M ρ σ H P F)(hm:M[y]?=el .dead)(v:Option V):StR K M ρ (σ.set y v) H P F:=by
 obtain⟨G,h1,h2,h3⟩:=S.all;obtain⟨dd,oo,f,pre,post,q1,q2,q3,rfl,q5⟩:=h1.at_ hm;have q:=q5 H F .dead dd v f (λ_ _=>rfl) (Same.refl _) q3;rw[set_same (l:=M) hm,set_same (l:=ρ) q1]at q;exact⟨⟨_,q,h2,h3⟩,S.lst,S.prot⟩
end
def b1Y(h:H a=el o):upd H a o=H:=funext λb=>by
 by_cases c:b=a
 ·rw[c,i6,h]
 ·rw[f7 c]
def a3O(hk:A5 k=true)(h:v7 kvs k=false):y7 (kvs++[(k,d)]) k=el d:=by
 unfold y7;unfold v7 at h;rw[cB]at h;rw[List.find?_append,fT.mpr λp hp=>by simpa using h p hp];simp[(A1 k k hk hk).mpr rfl]
def a7q(hk:A5 k=true)(h:v7 kvs k=false):n8 (kvs++[(k,d)]) k d'=kvs++[(k,d')]:=by
 have hh:v7 (kvs++[(k,d)]) k=true:=a0m (a3O hk h);unfold v7 at h;rw[cB]at h;unfold n8;rw[hh,aB rfl,aT]
 congr 1
 ·have:∀p∈kvs,(if aJ p.1 k then (p.1,d') else p)=p:=λp hp=>aI (h p hp)
  rw[cD this,gD]
 ·simp[(A1 k k hk hk).mpr rfl]
section
variable {K:ag}{H:Hp}{F:List au}
def StR.relist(S:StR K M ρ σ H P F)(hm:M[i]?=el (.own (.l .i)))(hs:σ[i]?=el (el (.ref b)))(hr:ρ.getD i .none=.list ds)(hd:DenAll K (cut H F) zs es)(hi:f6 es=true) :
  StR K M (ρ.set i (.list es)) σ (upd H b (.lst zs)) P F:=by
 obtain⟨G,h1,h2,h3⟩:=S.all;obtain⟨dd,oo,f,pre,post,q1,q2,⟨v2,rfl,q3⟩,rfl,q5⟩:=h1.at_ hm;rw[hs]at q2;cases q2
 rw[z8 q1]at hr;subst hr;simp only[Own]at q3;rcases q3 with⟨_,hx,_⟩|⟨a,xs,iw,fs,ea,hH,_,rfl,hL⟩
 ·simp only[imm]at hx;cases hx
 cases ea
 have se:b∈F:=h3 b (by simp);have cnt:(pre++post).count b=0:=by
  have z:=cI.mp h2 b;simp only[bc,bx,gy]at z ⊢;lia
 have fB:Same (cut H F) (cut (upd H b (.lst zs)) F):=G6 se _;have o1:Own K (upd H b (.lst zs)) F (.l .i) (.ref b) (.list es) [b]:=by
  simp only[Own];refine .inr ⟨b,zs,es,[],rfl,i6,rfl,rfl,ListAll.of_den (hd.up fB) λv d hx q=>?_⟩;simp only[Own];exact⟨trivial,C3 hi hx,q⟩
 have q:=q5 (upd H b (.lst zs)) F (.own (.l .i)) (.list es) (el (.ref b)) [b] (λc hc=>f7 λz=>by subst z;rw[dH]at cnt;exact cnt hc) fB ⟨_,rfl,o1⟩;rw[set_same (l:=σ) hs,set_same (l:=M) hm]at q;refine⟨⟨_,q,O0 h2 λc=>?_,λc hc=>h3 c ?_⟩,λc hc=>?_,S.prot.trans fB⟩
 ·simp only[bc,bx,du,cA,List.count_nil];lia
 ·simp only[aF,az,bx,cF,or_false]at hc ⊢;rcases hc with z|z|z
  ·exact .inl z
  ·exact .inr (.inl z)
  ·exact .inr (.inr (.inr (by simpa using z)))
 ·by_cases e:c=b
  ·subst e;exact⟨⟨.lst zs,trivial⟩,i6⟩
  ·obtain⟨ys,y⟩:=S.lst c hc;exact⟨ys,by rw[f7 e];exact y⟩
theorem a1w:∀{ds es:List D} {xs ys:List V},DenAll K H' xs ds→DenAll K H' ys es→DenAll K H' (xs++ys) (ds++es)
 |[],es,xs,ys,h,h'=>by rw[h.nil_inv];exact h'
 |d::ds,es,xs,ys,h,h'=>by
  obtain⟨v,r,rfl,h1,h2⟩:=h.cons_inv;exact denAll_cons h1 (a1w h2 h')
theorem a2A:∀{ds:List D} {xs:List V},DenAll K H' xs ds→DenAll K H' xs.reverse ds.reverse
 |[],xs,h=>by rw[h.nil_inv];exact denAll_nil
 |d::ds,xs,h=>by
  obtain⟨v,r,rfl,h1,h2⟩:=h.cons_inv;rw[nj,nj];exact a1w (a2A h2) (denAll_cons h1 denAll_nil)
def a7r:∀{ds:List D},f6 ds=true→f6 ds.reverse=true:=λ{ds} h=>by
 have key:∀l:List D,(∀d∈l,imm d=true)→f6 l=true:=by
  intro l
  induction l with
  |nil=>intro _;simp only[f6]
  |cons d l ih=>intro hl;simp only[f6,av];exact⟨hl d aj,ih λx hx=>hl x (aq _ hx)⟩
 exact key _ λd hd=>C3 h (kj.mp hd)
end
def c0y:V→List V→Hp→VK→Prop:=λx vs H Q=>∃l xs,x=.ref l∧vs=[]∧H l=el (.lst xs)∧Q .non (upd H l (.lst xs.reverse))
noncomputable def b7v(i:Nat):EvS:=λρ=>match ρ.getD i .none with
 |.list ds=>el (.nx (ρ.set i (.list ds.reverse)))
 |_=>p4
section
variable {X:Cx}{u w:Ty}{ML M M1:List Md}{e e2:Expr}{f:EvX}{f2:EvE}{c2:Cat}{pos apos cH:ff}{x:bC}{px:ff}
def b7w:MtM X "list.reverse" c0y:=by
 intro pins s σ H x vs v us Q I rx rv h;obtain⟨l,xs,rfl,rfl,hH,q⟩:=h;cases rx
 have mO:=rv.zero;subst mO;obtain⟨z,cJ,n,r,hl,e⟩:=I.lstM hH;refine call_meets qC ⟨_,e,rfl⟩ PySem.F.entry_list_reverse (PySem.F.args_list_reverse_1 _) (PySem.AutoSeq1.list_reverse_list_0 l cJ.toArray n (by rw[bb];lia)) ⟨e,?_⟩;refine⟨.non,_,I.lset (its':=cJ.reverse) (ys:=xs.reverse) hH e (by simp) ?_ (by rw[xa];exact z),rfl,q⟩;have pG:xs.reverse.length=cJ.reverse.length:=by simp[hl]
 refine a0o pG λi x u h1 h2=>?_
 have hi:i<xs.length:=by have:=(aP.mp h1).1;simpa using this
 rw[uu hi]at h1;rw[uu (by lia)]at h2;obtain⟨u',rT,ru⟩:=r.get h1;rw[hl,h2]at rT;cases rT
 exact ru
def b7x(i:Nat)(hm:M[i]?=el (.own (.l .i)):=by rfl)(hN:X.N[i]?=el x:=by rfl)(hv:Vis X.env.scope x:=by first|exact cn rfl|exact bY (cn rfl)|exact bY (bY rfl))(hd:(x==("__debug__":bC))=false:=by decide)
  (iJ:(x==("__classdict__":bC))=false:=by decide) (eK:dc (.Name x px) "reverse" X.env (cy (.Name x px) X.env)=cy (.Name x px) X.env:=by rfl) (eJ:(apos.endLine==cH.line)=true:=by rfl)
  (oy:fI (.Call (.Attribute (.Name x px) "reverse" apos) [] [] cH) p4 pos.line X.env=pure false:=by rfl) :
  PSX X w ML M (.Expr (.Call (.Attribute (.Name x px) "reverse" apos) [] [] cH) pos) (b7v i) M:=by
 refine .mk ⟨_,Z7 (b6v ke qC PySem.F.type_list_reverse b7w (C0 hN hv hd iJ) eK eJ) oy,λD ρ σ H P F o S hg k=>?_⟩;obtain⟨v,f,ub,ov,hf⟩:=S.toE.get hm;unfold b7v at hg;cases hρ:ρ.getD i .none with
 |list ds=>
  rw[hρ]at hg ov;cases hg
  simp only[Own]at ov;rcases ov with⟨_,hi,_⟩|⟨a,xs,iw,fs,rfl,h1,h2,rfl,h3⟩
  ·simp only[imm]at hi;cases hi
  ·cases h2
   have pM:DenAll X.K (cut H F) xs ds:=ListAll.den (R:=λv d f=>Own X.K H F .i v d f) (λv d f q=>(T6 q).2.2) h3;have Dy:f6 ds=true:=by
    have:∀{ds:List VS.D} {xs:List V} {fs:List au},ListAll (Own X.K H F .i) xs ds fs→f6 ds=true:=by
     intro ds
     induction ds with
     |nil=>intro _ _ _;simp only[f6]
     |cons d ds ih=>
      intro xs fs h;obtain⟨v,r,f,g,_,_,q1,q2⟩:=h.cons_inv;simp only[f6,av];exact⟨(T6 q1).2.1,ih q2⟩
    exact this h3
   exact⟨_,ub,.inl ⟨rfl,xs,SqL.of h1⟩,a,xs,rfl,rfl,h1,k σ _ F (S.relist hm ub hρ (a2A pM) (a7r Dy))⟩
 |_=>rw[hρ]at hg;cases hg
end
def b9f:∀{us:List α},us.length=1→∃a,us=[a]
 |[a],_=>⟨a,rfl⟩
def b4u:∀{us:List α},us.length=2→∃a b,us=[a,b]
 |[a,b],_=>⟨a,b,rfl⟩
def b9g:∀{us:List α},us.length=3→∃a b c,us=[a,b,c]
 |[a,b,c],_=>⟨a,b,c,rfl⟩
def c0z:∀{us:List α},us.length=4→∃a b c d,us=[a,b,c,d]
 |[a,b,c,d],_=>⟨a,b,c,d,rfl⟩
def c0A:∀{us:List α},us.length=5→∃a b c d e,us=[a,b,c,d,e]
 |[a,b,c,d,e],_=>⟨a,b,c,d,e,rfl⟩
def c0B:∀{us:List α},us.length=6→∃a b c d e f,us=[a,b,c,d,e,f]
 |[a,b,c,d,e,f],_=>⟨a,b,c,d,e,f,rfl⟩
noncomputable def a3P(i:Nat)(kt:Bool)(fk fe:EvE):EvS:=λρ=>(fk ρ).bind λk=>(fe ρ).bind λd=>match ρ.getD i .none with
 |.dict kvs=>if m9 kt k then match y7 kvs k with
   |some (.list es)=>if es.length<1000000 then el (.nx (ρ.set i (.dict (n8 kvs k (.list (es++[d])))))) else p4
   |_=>p4
  else p4
 |_=>p4
section
variable {X:Cx}{M ML:List Md}{i j:Nat}{u t w:Ty}{k e:Expr}{fk fe:EvE}{kt:Bool}{x:bC}{px mK pos apos cH xD:ff}{sts:List gM}{g:List D→D→Option D}{sl:List Nat}
def b4v(i:Nat)(hu:X.A.units+64<cV)(hk:PX X M k fk ck)(he:PX X M e fe (.new .i))(kW:a3H k:=by exact λ_ _=>rfl)(hm:M[i]?=el (.own (.d kt (.l .i))):=by rfl)(hN:X.N[i]?=el x:=by rfl)(hv:Vis X.env.scope x:=by first|exact cn rfl|exact bY (cn rfl)|exact bY (bY rfl))(hd:(x==("__debug__":bC))=false:=by decide)
  (iJ:(x==("__classdict__":bC))=false:=by decide)
  (eK:dc (.Subscript (.Name x px) k mK) "append" X.env (cy (.Subscript (.Name x px) k mK) X.env)=cy (.Subscript (.Name x px) k mK) X.env:=by rfl)
  (kq:((cx cH (aw [e] X.env)).all (λx=>!x.1)&&(mV cH (jn [] X.env)).all (λx=>x.1.isSome)
   && decide ([e].length+([]:List hJ).length+(if ([]:List hJ).isEmpty then 0 else 1)<30))=true:=by rfl)
  (eJ:(apos.endLine==cH.line)=true:=by rfl) (hs:aw [e] X.env=(false,cy e X.env)::aw [] X.env:=by rfl) (gI:(cx cH (aw [] X.env)).any (·.1)=false:=by rfl)
  (oy:fI (.Call (.Attribute (.Subscript (.Name x px) k mK) "append" apos) [e] [] cH) p4 pos.line X.env=pure false:=by rfl) :
  PSX X w ML M (.Expr (.Call (.Attribute (.Subscript (.Name x px) k mK) "append" apos) [e] [] cH) pos) (a3P i kt fk fe) M:=by
 obtain⟨tk,pk,qk⟩:=hk.out;obtain⟨te,pe,qe⟩:=he.out;refine .mk ⟨_,Z7 (b5u ke rz ro a0I (b1E hu (C0 hN hv hd iJ) pk kW) (l5 pe p0 hs) eK kq eJ hs gI) oy,λD ρ σ H P F o S hg kk=>?_⟩;obtain⟨k0,vn,g1⟩:=bnd hg;obtain⟨dv,s_,g2⟩:=bnd g1;obtain⟨a,es,ds,fs,ha,hH,hρ,_⟩:=S.toE.dict hm;rw[hρ]at g2;have lQ:(if m9 kt k0=true then (match y7 ((es.map (·.1)).zip ds) k0 with
   |some (.list eX)=>if eX.length<1000000 then el (Out.nx (ρ.set i (.dict (n8 ((es.map (·.1)).zip ds) k0 (.list (eX++[dv])))))) else p4
   |_=>p4) else p4)=el o:=g2
 by_cases c:m9 kt k0=true
 ·rw[aB c]at lQ;cases qw:y7 ((es.map (·.1)).zip ds) k0 with
  |none=>rw[qw]at lQ;cases lQ
  |some d1=>
   rw[qw]at lQ;cases d1 with
   |list xs=>
    have g3:(if xs.length<1000000 then el (Out.nx (ρ.set i (.dict (n8 ((es.map (·.1)).zip ds) k0 (.list (xs++[dv])))))) else p4)=el o:=lQ;by_cases hz:xs.length<1000000
    ·rw[aB hz]at g3;cases g3
     refine⟨.ref a,ha,qk ρ σ H P F k0 _ S.toE vn λkv H1 w1 r1=>?_⟩;have S1:=S.grow w1;obtain⟨a0,eX,iw,t1,t2,t3,t4,t5,t6,t7⟩:=S1.dval (k:=k0) hm (v5 c);rw[ha]at t1;cases t1
     rw[hρ]at t3
     injection t3 with t3
     rw[t3]at qw;refine⟨a,eX,kt,k0,rfl,t2,keysAt t5 c r1.den,by rw[←v8 t4];exact a0m qw,λe9 DJ fH=>?_⟩;obtain⟨d2,f2,x1,x2,x3,x4,x5⟩:=t7 e9 DJ fH;rw[qw]at x1;cases x1
     simp only[Own]at x2;rcases x2 with⟨_,hi,_⟩|⟨b,vs,lJ,gs,eb,hb,ED,rfl,jt⟩
     ·simp only[imm]at hi;cases hi
     cases ED
     have jt:ListAll (Own X.K H1 F .i) vs xs gs:=by
      have e9:(Own X.K H1 F .i)=λx zt BB=>BB=[]∧imm zt=true∧Den X.K (cut H1 F) x zt:=by
       funext x y z
       simp only[Own]
      rw[e9];exact jt
     have se:b∈F:=x4 b aj;have hsz:vs.length=xs.length:=jt.length;rw[eb];refine⟨.inl ⟨rfl,vs,SqL.of hb⟩,qe ρ σ H1 P F dv _ S1.toE s_ λv1 H2 e2 ⟨fp,o1,nd,fr⟩=>?_⟩;obtain⟨rfl,im,ES⟩:=T6 o1;refine⟨b,vs,v1,rfl,rfl,e2 _ _ hb,by rw[hsz];exact fE hz (by rw[cQ];decide),?_⟩;have fB:Same (cut H1 F) (cut (upd H2 b (.lst (vs++[v1]))) F):=(A2 e2).trans (G6 se _);have kp:∀b'∈gs,upd H2 b (.lst (vs++[v1])) b'=H1 b':=λb' kn=>by
      have gj:b'≠b:=λz=>by subst z;exact (bt.mp x3).1 kn
      rw[f7 gj];exact S1.toE.keep e2 b' (x4 b' (aq _ kn))
     have ow:Own X.K (upd H2 b (.lst (vs++[v1]))) F (.l .i) (.ref b) (.list (xs++[dv])) (b::(gs++[])):=by
      simp only[Own];refine .inr ⟨b,vs++[v1],xs++[dv],gs++[],rfl,i6,rfl,rfl,(l7 fB jt kp).append ?_⟩;have ov:Own X.K (upd H2 b (.lst (vs++[v1]))) F .i v1 dv []:=by
       simp only[Own];exact⟨trivial,im,ES.up (G6 se _)⟩
      exact k9 (R:=Own X.K (upd H2 b (.lst (vs++[v1]))) F .i) ov m3
     have fin:=x5 H2 b ⟨.lst (vs++[v1]),trivial⟩ (.list (xs++[dv])) (b::(gs++[])) e2 aj (by rw[eb];exact ow) λb'=>by rw[bE];exact aD _
     rw[←t3]at fin;exact kk σ _ F fin
    ·rw[aI hz]at g3;cases g3
   |_=>cases lQ
 ·rw[aI c]at lQ;cases lQ
end
section
variable {X:Cx}{pins:List (au×fD)}{σ:L2.St}{H:Hp}{s:ai}{A:bD}{E:ah→ai→Prop}{a:au}{es:List (D×V×V)}{kt:Bool}{k:D}{kv v:V}{key val:ah}
def b4w(hu:A.units+12<cV)(I:Inv X pins σ H s)(h:H a=el (c6 a es))(K:KeysAt X H kt es k kv)(rk:RelV kv key)
  (jG:r8 es k=false→∀s',Inv X pins σ H s'→Q val s') (jF:∀e∈es,e.1=k→∀x s',Inv X pins σ H s'→RelV e.2.2 x→Q x s'):aC (aV X.prog X.w) A (call (.builtin "dict.get") [.ref a,key,val]) Q E s:=by
 have hT:=j6 I h;obtain⟨hd,_⟩:=m8 I h;refine bB F.slot_dict_get hT F.entry_dict_get ?_ (F.args_dict_get_3 _ _ _);show aC _ _ (EU a key >>= _) _ _ s;refine ab (get_dict (A:=A.in1) I (by show A.units+1+10<cV;lia) h K rk (λhf s' I'=>?_) λe he fH x s' I' r=>?_)
 ·show aC _ _ (Builtin.Dict.missed a key >>= _) _ _ _;exact ab (wpAny_missed_other hd (ae ⟨_,rfl,jG hf s' I'⟩))
 ·exact ae ⟨x,rfl,jF e he fH x s' I' r⟩
end
section
variable {X:Cx}{M:List Md}{a b z:Expr}{fa fb fz:EvE}{cb cz:Cat}{kt:Bool}{u:Ty}{pos apos cH:ff}
def b9h(X:Cx):V→List V→Hp→VK→Prop:=λx xs H Q=>∃p es kt k y z,x=.ref p∧xs=[y,z]∧H p=el (c6 p es)∧KeysAt X H kt es k y∧(r8 es k=false→Q z H)∧((es.map (·.1)).Nodup→∀e∈es,e.1=k→Q e.2.2 H)
def b4x(hu:X.A.units+64<cV):MtR X "dict.get" (b9h X):=by
 intro pins s σ H x xs v us Q I rx rv h;obtain⟨p,es,kt,k,y,z,rfl,rfl,hH,K,q1,q2⟩:=h;cases (show v=aW p from rx)
 obtain⟨w1,w2,rfl,r1,r2⟩:=vals2 rv;have hn:=(m8 I hH).2.2.1;exact b4w (by lia) I hH K r1 (λhf s' I'=>⟨z,H,I',r2,q1 hf⟩) λe he fH x s' I' r'=>⟨e.2.2,H,I',r',q2 hn e he fH⟩
noncomputable def b1Z(kt:Bool)(fa fb fz:EvE):EvE:=λρ=>(fa ρ).bind λd=>(fb ρ).bind λk=>(fz ρ).bind λz=>match d with
 |.dict kvs=>if m9 kt k&&keysOk kt kvs then el ((y7 kvs k).getD z) else p4
 |_=>p4
def b4y(hu:X.A.units+64<cV)(ha:PX X M a fa (.new .f))(hb:PX X M b fb cb)(hz:PX X M z fz cz)(eK:dc a "get" X.env (cy a X.env)=cy a X.env:=by rfl)
  (kq:((cx cH (aw [b,z] X.env)).all (λx=>!x.1)&&(mV cH (jn [] X.env)).all (λx=>x.1.isSome)
   && decide (([b,z]:List Expr).length+([]:List hJ).length+(if ([]:List hJ).isEmpty then 0 else 1)<30))=true:=by rfl)
  (eJ:(apos.endLine==cH.line)=true:=by rfl) (hs:aw [b,z] X.env=(false,cy b X.env)::aw [z] X.env:=by rfl) (xW:aw [z] X.env=(false,cy z X.env)::aw [] X.env:=by rfl) (gI:(cx cH (aw [z] X.env)).any (·.1)=false:=by rfl) :
  PX X M (.Call (.Attribute a "get" apos) [b,z] [] cH) (b1Z kt fa fb fz) .tmp:=by
 obtain⟨ta,pa,qa⟩:=ha.out;obtain⟨tb,pb,qb⟩:=hb.out;obtain⟨tz,pz,qz⟩:=hz.out;refine .mk ⟨_,a7g PySem.F.slot_dict_get PySem.F.type_dict_get (b4x hu) pa (l5 pb (l5 pz p0 xW) hs) eK kq eJ hs gI,λρ σ H P F d Q S hf q=>?_⟩;obtain⟨x,h1,g1⟩:=bnd hf;obtain⟨y,h2,g2⟩:=bnd g1;obtain⟨zd,h3,g3⟩:=bnd g2;cases x with
 |dict kvs=>
  have qy:(if (m9 kt y&&keysOk kt kvs)=true then el ((y7 kvs y).getD zd) else p4)=el d:=g3;by_cases hk:(m9 kt y&&keysOk kt kvs)=true
  ·rw[aB hk]at qy;cases qy
   rw[av]at hk;refine qa ρ σ H P F _ _ S h1 λv H1 e1 ⟨fp,o,nd,fr⟩=>?_
   simp only[Own]at o;obtain⟨rfl,o⟩:=o;obtain⟨p,es,rfl,hH,dk⟩:=o.dict_inv;refine⟨⟨p,es,rfl,i7 _ _ hH⟩,qb ρ σ H1 P F y _ (S.grow e1) h2 λw H2 e2 r2=>qz ρ σ H2 P F zd _ (S.grow (e1.trans e2)) h3 λzv H3 e3 r3=>?_⟩;have wX:DenKV X.K H3 es kvs:=DenKV.mono (i7.trans (e2.trans e3)) kvs dk;have KK:=b1K wX hk.2 hk.1 (r2.den.up e3);refine⟨p,es,kt,y,w,zv,rfl,rfl,(e2.trans e3) _ _ (i7 _ _ hH),KK,λhf=>?_,λhn e he fH=>?_⟩
   ·have:y7 kvs y=p4:=a3I (by rw[V8 dk.keys];exact hf);rw[this]at q;exact q zv H3 ((e1.trans e2).trans e3) r3.den
   ·obtain⟨d',g',dd⟩:=b1M hn (λe he=>KK.eqv he) wX he fH;rw[g']at q;exact q _ H3 ((e1.trans e2).trans e3) dd
  ·rw[aI hk]at qy;cases qy
 |_=>cases g3
end
end VS
namespace VS
open PySem PySem.Spec L2
open PyProof.Rows (KeyOrd SortKind SortSt keyKind' keyLt' seqObj listItems_at listUpdate_at seqEpoch_at arrOf failedOf get?_update_seq general' size_push' ksk_end ksk_tail)
open PySem.W (kas_sort kas_ask kas_item kat_run kat_snds)
section
variable {prog:br}{w:bL}{A:bD}{E:ah→ai→Prop}{sh:ai}{vs ks:List ah}{κ:nz}{O:KeyOrd}{key:Nat→O.α}{R:bN→Prop}
structure SortableR (prog:br) (w:bL) (A:bD) (R:bN→Prop) (ks:List ah) (κ:nz) (O:KeyOrd) (key:Nat→O.α):Prop where
 kind:2≤ks.length→∀(s:ai) (E:ah→ai→Prop) (Q:nz→ai→Prop),R s.heap→Q κ s→aC (aV prog w) A (keyKind' ks.toArray) Q E s
 lt:∀(s:ai) (i j:Nat) (C:Bool→ai→Prop),R s.heap→i<ks.length→j<ks.length→C (O.blt (key i) (key j)) s→aC (aV prog w) A (keyLt' κ (ks.getD i bz) (ks.getD j bz)) C (λ_ _=>False) s
end
end VS
namespace VS
open PySem PySem.Spec L2
def Itd(a:au)(es:List (D×V×V)):It:=
 ⟨λi H=>H a=el (c6 a es)∧i<es.length,λi H x H'=>H'=H∧∃e,es[i]?=el e∧x=e.2.1,λi H=>H a=el (c6 a es)∧es.length≤i⟩
def a9X(a it:au)(es:List (D×V×V))(hL:C2 es=false):Turn P w K tg (Itd a es) [it] it (λi h=>h.IsKeyIter it a i es.length es.length) where
 mem:=by simp
 obj:=λi h st b hb=>by
  have e:b=it:=by simpa using hb
  subst e;obtain⟨o,e,c,d⟩:=st;exact⟨o,e,λv z=>by rw[d]at z;cases z⟩
 keep:=λi h h' st k=>st.at λo e=>k it (by simp) o e
 item:=by
  intro X hP hw hK hc i pins s σ H E I hf st hg;subst hP hw hK;obtain⟨hH,hi⟩:=hg;obtain⟨h0,hl,hn,o,ents,g1,g2,g3,g4⟩:=V4 I hH hL;have hsz:ents.size=es.length:=by rw[cM g4];exact bW.symm
  have jJ:i<ents.size:=by lia
  have hx:es[i]?=el es[i]:=ak hi;obtain⟨y,hy,r⟩:=A4 g4 hx;have CF:ents[i]=y:=by
   rw[bR,bF jJ]at hy;exact aK hy
  obtain⟨f0,f1,f2,f3,f4,f5⟩:=hf it (by simp);have qN:s.heap.IsKeyIter it a i ents.size es.length:=by rw[hsz];exact st
  refine a5P qN ⟨o,g1,g2,g3⟩ jJ λh' lM sb=>?_
  have I1:Inv X pins σ H {s with heap:=h'}:=I.turned (t':=s.toks) (λb o hb e=>(sb.2 b hb).trans e) f0 f1 f3 f4 f5;rw[hsz]at lM;obtain⟨o,e,c,d⟩:=id lM;exact⟨ents[i].key,rfl,a5o (s:={s with heap:=h'}) e c d (by decide) ⟨es[i].2.1,H,I1,by rw[CF];exact r.2.1,⟨rfl,es[i],hx,rfl⟩,lM,λb hb=>(hf b hb).1⟩⟩
 done:=by
  intro X hP hw hK hc i pins s σ H E I hf st hg;subst hP hw hK;obtain⟨hH,hi⟩:=hg;obtain⟨h0,hl,hn,o,ents,g1,g2,g3,g4⟩:=V4 I hH hL;have hsz:ents.size=es.length:=by rw[cM g4];exact bW.symm
  obtain⟨f0,f1,f2,f3,f4,f5⟩:=hf it (by simp);have qN:s.heap.IsKeyIter it a i ents.size es.length:=by rw[hsz];exact st
  exact a5Q (I.ok.hd hc) qN ⟨o,g1,g2,g3⟩ (by lia) λh' eb=>⟨rfl,I.turned (t':=s.toks) (λb o hb e=>eb b o hb e) f0 f1 f3 f4 f5⟩
 self:=λ_ _ _ _ _ st h=>wpAny_pyIter_keyiter st h
section
variable {X:Cx}{M:List Md}{tg a:Expr}{fa:EvE}{ca:Cat}
def b7y(ta:TE):TI:=λσ H R=>ta σ H λx H1=>∃p es,x=.ref p∧H1 p=el (c6 p es)∧C2 es=false∧R (Itd p es) H1
def b4z(hl:PE X a ta):PI X tg a (b7y ta):=by
 intro pins s σ H R I h;refine L2.thn (hl pins s σ H _ I h) λv s1 ⟨x,H1,I1,r1,q1⟩=>?_
 obtain⟨p,es,e,hH,hL,q⟩:=q1;subst e;cases r1
 obtain⟨h0,hl,hn,o,ents,g1,g2,g3,g4⟩:=V4 I1 hH hL;have hsz:ents.size=es.length:=by rw[cM g4];exact bW.symm
 refine a5O h0 ⟨o,g1,g2,g3⟩ ?_;refine⟨s1.heap.objs.size,[s1.heap.objs.size],_,_,H1,rfl,I1.kept (t':=s1.toks) λb o e=>af _ e,a9X p _ es hL,⟨_,aE _ rfl,rfl,by rw[hsz];rfl⟩,λb hb=>?_,q⟩;have e:b=s1.heap.objs.size:=by simpa using hb
 subst e;exact I1.fpOk (aD _) (I1.hok.fresh (aD _))
def a7s:Walks (Itd p es) (λH=>H p=el (c6 p es)) (es.map (·.2.1)) where
 go:=λi H h hi=>⟨h,by simpa using hi⟩
 stop:=λi H h hi=>⟨h,by simpa using hi⟩
 yld:=λi H x H' h hi y=>by
  obtain⟨e,r,hr,rfl⟩:=y;exact⟨e,by rw[aU,hr];rfl⟩
noncomputable def iDk(a:EvE):EvA:=λρ=>(a ρ).bind λd=>(b1V d).bind λks=>if K3 ks then p4 else el ks
def b2a(h:PX X M a fa ca)(hc:frozen ca:=by trivial):PIX X M tg a (iDk fa):=by
 obtain⟨t,p,q⟩:=h.out;refine⟨_,b4z p,λρ σ H P F ds R S hf k=>?_⟩;obtain⟨d,h1,h2⟩:=bnd hf;cases d with
 |dict kvs=>
  have jh:(if K3 (kvs.map (·.1)) then p4 else el (kvs.map (·.1)))=el ds:=h2;have hL:K3 (kvs.map (·.1))=false:=by
   cases c:K3 (kvs.map (·.1)) with
   |false=>rfl
   |true=>rw[c]at jh;cases jh
  rw[hL]at jh;cases jh
  refine q ρ σ H P F _ _ S h1 λv H1 e1 r1=>?_
  obtain⟨aa,es,rfl,k1,k2⟩:=(B5 hc r1).dict_inv;exact⟨aa,es,rfl,i7 _ _ k1,by rw[C2,k2.keys];exact hL,k _ _ _ H1 e1 a7s (λH2 e2=>e2 _ _ k1) (M6 k2)⟩
 |_=>cases h2
end
def a5R(F:List au)(H H2:Hp):Hp:=λa=>if a∈F then H a else H2 a
def a0p(h:a∈F):a5R F H H2 a=H a:=aB h
def o7(h:a∉F):a5R F H H2 a=H2 a:=aI h
def b7z(sp:Sp):Sp:=λvs H Q E=>∃F:List au,(∀a∈F,∃ys:MuO,H a=el ys.1)∧sp vs (cut H F) (λv H2=>(∀a∈F,H2 a=p4)→Q v (a5R F H H2)) E
section
variable {P:br}{w:bL}{K:ag}{mg:bC→Option ah}{base:bN}{k:Nat}{f:au}{fd:dC}{ps:List bC}{sp:Sp}{H:Hp}{h:bN}{F:List au}
def a0W(hF:∀a∈F,∃ys:MuO,H a=el ys.1)(e:H b=el o)(n:¬ Mu o):b∉F:=λz=>by
 obtain⟨ys,hy⟩:=hF b z;rw[e]at hy;cases hy
 exact n ys.2
def b7A(h:Pin a o):¬ Mu o:=by cases o<;>first|exact λz=>z|exact λ_=>h
def b4A(hk:HOk P w H h)(hF:∀a∈F,∃ys:MuO,H a=el ys.1):HOk P w (cut H F) h:=λa o e=>by
 obtain⟨_,e'⟩:=o6 e;exact (hk a o e').stay (λb u _ q=>q) (λb q=>j5 (a0W hF q (λz=>z)) q) λb xs q=>j5 (a0W hF q (b7A xs.2)) q
def y9(n:H a=p4):cut H F a=p4:=by
 by_cases q:a∈F
 ·exact T5 q
 ·rw[U8 q];exact n
def a7t(F0:FnOk P w K mg base CX0 k f fd ps sp):FnOk P w K mg base CX0 k f fd ps (b7z sp) where
 len:=λvs H Q E ⟨F,_,hs⟩=>F0.len _ _ _ _ hs
 run:=λA outer s H args us vs Q E hr he hb hv ⟨F,hF,hs⟩=>by
  have kL:Env0 P w K mg base A outer s (cut H F):=⟨he.frames,he.mod,λb o e=>⟨(he.bs b o e).1,y9 (he.bs b o e).2⟩,he.bsz,he.funs,λb hb=>y9 (he.frf b hb),b4A he.hok hF,he.bare,λx hx p e=>let⟨qs,t,e1,e2⟩:=he.tabs x hx p e;⟨qs,t,j5 (a0W hF e1 (λz=>z)) e1,e2⟩⟩;refine fK (F0.run A outer s (cut H F) args us vs _ E hr kL hb hv hs) λr s' hq=>?_
  cases r with
  |error e=>exact hq
  |ok fl=>
   cases fl with
   |ret u=>
    obtain⟨v,H2,os,bare,un,oA,rv,q⟩:=(show CE outer P w (cut H F) s _ u s' from hq);have there:∀a∈F,∃o,s.heap.get? a=el o:=λa ha=>by
     obtain⟨⟨ys,hm⟩,hy⟩:=hF a ha;have:=he.hok a _ hy;cases ys with
     |lst xs=>obtain⟨_,cJ,n,r,e⟩:=this;exact⟨_,e⟩
     |dK kvs=>obtain⟨_,_,vs,_,ob,es,ep,e,_⟩:=this;exact⟨_,e⟩
     |ext φ=>obtain⟨_,e,_⟩:=this;exact e
     |_=>exact cK hm
    have AQ:∀a∈F,H2 a=p4:=λa ha=>by
     obtain⟨o,ho⟩:=there a ha;exact un.free a o ho (T5 ha) (by simp)
    have Dg:∀{b:au},H b=p4→b∉F:=λ{b} n z=>by
     obtain⟨ys,hy⟩:=hF b z;rw[n]at hy;cases hy
    refine (show CE outer P w H s Q u s' from⟨v,a5R F H H2,os,bare,?_,?_,rv,q AQ⟩)
    ·refine⟨λb o q n hb hx=>un.keep b o q (y9 n) hb hx,λb o q n hb hx=>un.slot b o q (y9 n) hb hx,λb o q n hx=>?_,un.there,λb xs q=>?_,λb o u q=>?_,λb ps q=>?_⟩
     ·rw[o7 (Dg n)];exact un.free b o q (y9 n) hx
     ·have n:=a0W hF q (λz=>z);rw[o7 n];exact un.tups b xs (j5 n q)
     ·have n:=a0W hF q (λz=>z);rw[o7 n];exact un.frzs b o u (j5 n q)
     ·have n:=a0W hF q (λz=>z);rw[o7 n];exact un.tbls b ps (j5 n q)
    ·intro a o e;by_cases ha:a∈F
     ·rw[a0p ha]at e;have hk:∀u,s.heap.get? a=el u→s'.heap.get? a=el u:=λu q=>un.keep a u q (T5 ha) (λz=>by rw[he.frf a z]at e;cases e) (by simp)
      obtain⟨⟨ys,hm⟩,hy⟩:=hF a ha;have ho:=he.hok a _ hy;have eo:o=ys:=aK (e.symm.trans hy);rw[eo];cases ys with
      |lst xs=>obtain⟨z,cJ,n,r,e⟩:=ho;exact⟨z,cJ,n,r,hk _ e⟩
      |dK kvs=>obtain⟨z,y,vs,r,ob,es,ep,e,c⟩:=ho;exact⟨z,y,vs,r,ob,es,ep,hk _ e,c⟩
      |ext φ=>obtain⟨h1,⟨ob,h2⟩,h3⟩:=ho;exact⟨h3 _ _ h1 hk,⟨ob,hk _ h2⟩,h3⟩
      |_=>exact cK hm
     ·rw[o7 ha]at e;have jW:∀{b:au} {o:HO},H2 b=el o→a5R F H H2 b=el o:=λ{b} {o} q=>by
       rw[o7 (λz=>by rw[AQ b z]at q;cases q)];exact q
      exact (oA a o e).stay (λb u _ q=>q) (λb q=>jW q) λb xs q=>jW q
   |next=>exact cK hq
   |brk=>exact cK hq
   |cont=>exact cK hq
end
section
variable {X:Cx}{M:List Md}{a e0:Expr}{es:List Expr}{fa:EvE}{f:EvA}{ca:Cat}{u:Ty}{x:bC}{p pos:ff}
def a9Y(W:Has X.prog X.w X.K X.mg X.base x k ps sp):Has X.prog X.w X.K X.mg X.base x k ps (b7z sp):=by
 obtain⟨f,fd,F,b⟩:=W.ex;exact⟨f,fd,a7t F,b⟩
noncomputable def PAF(X:Cx)(M:List Md)(es:List Expr)(f:EvA):Prop:=
 ∃t,PA X es t∧∀(ρ:List D) (σ:L2.St) (H P:Hp) (F:List au) (ds:List D) (Q:List V→Hp→Prop),StE X.K M ρ σ H P F→f ρ=el ds→(∀vs H',Same H H'→DenAll X.K (cut H' F) vs ds→Q vs H')→t σ H Q
def M7:PAF X M [] g8:=⟨_,p0,λρ σ H P F ds Q S hf q=>by cases hf;exact q [] H (Same.refl _) denAll_nil⟩
def n9(ha:PX X M a fa ca)(hr:PAF X M es fr)(hc:frozen ca:=by trivial)(hs:aw (a::es) X.env=(false,cy a X.env)::aw es X.env:=by rfl):PAF X M (a::es) (b8 fa fr):=by
 obtain⟨ta,pa,qa⟩:=ha.out;obtain⟨tr,pr,qr⟩:=hr;refine⟨_,l5 pa pr hs,λρ σ H P F ds Q S hf q=>?_⟩;obtain⟨x,h1,hf⟩:=bnd hf;obtain⟨xs,h2,hf⟩:=bnd hf;cases hf
 exact qa ρ σ H P F _ _ S h1 λv H1 e1 r1=>qr ρ σ H1 P F _ _ (S.grow e1) h2 λvs H2 e2 r2=>q (v::vs) H2 (e1.trans e2) (denAll_cons ((B5 hc r1).up (A2 e2)) r2)
def G7(W:Has X.prog X.w X.K X.mg X.base x k ps (spD X.K n m u))(hr:Room k X.A)(h:PAF X M (e0::es) f)(hl:(e0::es).length=n:=by rfl)(hfl:∀ρ ds,f ρ=el ds→ds.length=(e0::es).length)
  (hg:Gl X x:=by rfl) (kM:(x==("__debug__":bC))=false:=by decide) (he:aw (e0::es) X.env=(false,cy e0 X.env)::aw es X.env:=by rfl) (fJ:(cx pos (aw es X.env)).any (·.1)=false:=by rfl) :
  PX X M (.Call (.Name x p) (e0::es) [] pos) (eCl m f) (.new u):=by
 obtain⟨t,pa,qa⟩:=h;refine .mk ⟨_,a4w (a9Y W) hr pa hg kM he fJ,λρ σ H P F d Q S hf q=>?_⟩;obtain⟨ds,h1,hf⟩:=bnd hf;refine qa ρ σ H P F ds _ S h1 λvs H1 e1 r1=>?_
 show b7z (spD X.K n m u) (vs++[]) H1 Q E0;rw[bE];refine⟨F,S.lst' e1,ds,d,by rw[r1.length,hfl ρ ds h1,hl],r1,hf,λv H2 fp e o nd fr hz=>q v (a5R F H1 H2) ?_ ?_⟩
 ·intro b o' hb;have vB:=e1 b o' hb;by_cases c:b∈F
  ·rw[a0p c];exact vB
  ·rw[o7 c];exact e b o' (j5 c vB)
 ·have q_:∀a∈fp,a∉F:=λa ha z=>by
   obtain⟨ys,hy⟩:=o.lst u a ha;rw[hz a z]at hy;cases hy
  refine⟨fp,Own.frame (λb o' hb=>?_) u o (λa ha=>o7 (q_ a ha)),nd,λa ha=>?_⟩
  ·obtain⟨n1,n2⟩:=o6 hb;have n3:b∉F:=λz=>by rw[hz b z]at n2;cases n2
   exact j5 (λz=>(aF.mp z).elim n1 n3) (by rw[o7 n3];exact n2)
  ·have:=fr a ha;rw[U8 (q_ a ha)]at this;exact e1.free this
end
def Junk(H:Hp)(C:List au):Prop:=∀a∈C,∀u,H a=el u→∃o,u=.frz o (.own a)
section
variable {K:ag}{H H':Hp}{C F:List au}
theorem Junk.cut(h:Junk H C):Junk (cut H F) C:=λa ha u e=>h a ha u (o6 e).2
def Junk.out(h:Junk H C)(e:H a=el u)(n:∀o,u≠.frz o (.own a)):a∉C:=λz=>by
 obtain⟨o,q⟩:=h a z u e;exact n o q
def b2b(h:Junk H C)(q:SqX K H a xs):SqX K (VS.cut H C) a xs:=by
 rcases q with (q|⟨o,q⟩)|q
 ·exact .inl (.inl (j5 (h.out q λo z=>(nomatch z)) q))
 ·exact .inl (.inr ⟨o,j5 (h.out q λo z=>by cases z) q⟩)
 ·exact .inr q
def b2c(h:Junk H C)(q:SqT K H a xs):SqT K (VS.cut H C) a xs:=by
 rcases q with (q|⟨o,q⟩)|q
 ·exact .inl (.inl (j5 (h.out q λo z=>(nomatch z)) q))
 ·exact .inl (.inr ⟨o,j5 (h.out q λo z=>by cases z) q⟩)
 ·exact .inr q
def a2B(h:Junk H C)(q:H a=el (c6 a es)):VS.cut H C a=el (c6 a es):=
 j5 (h.out q λo z=>by unfold c6 at z;cases z) q
mutual
theorem Den.junk(h:Junk H C):∀(d:ba) {v:V},Den K H v d→Den K (VS.cut H C) v d
 |.none,_,q=>by simpa only [Den]using q
 |.bool _,_,q=>by simpa only [Den]using q
 |.int _,_,q=>by simpa only [Den]using q
 |.str _,_,q=>by simpa only [Den]using q
 |.list ds,_,q=>by
  obtain⟨a,xs,rfl,h1,h2⟩:=q.list_inv;exact den_list (b2b h h1) (DenAll.junk h ds h2)
 |.tuple ds,_,q=>by
  obtain⟨a,xs,rfl,h1,h2⟩:=q.tup_inv;exact den_tup (b2c h h1) (DenAll.junk h ds h2)
 |.dict kvs,_,q=>by
  obtain⟨a,es,rfl,h1,h2⟩:=q.dict_inv;simp only[Den];exact⟨a,es,rfl,a2B h h1,DenKV.junk h kvs h2⟩
theorem DenAll.junk(h:Junk H C):∀(ds:List ba) {xs:List V},DenAll K H xs ds→DenAll K (VS.cut H C) xs ds
 |[],_,q=>by simpa only [DenAll]using q
 |d::ds,_,q=>by
  obtain⟨v,r,rfl,h1,h2⟩:=q.cons_inv;exact denAll_cons (Den.junk h d h1) (DenAll.junk h ds h2)
theorem DenKV.junk(h:Junk H C):∀(kvs:List (ba×ba)) {es:List (ba×V×V)},DenKV K H es kvs→DenKV K (VS.cut H C) es kvs
 |[],_,q=>by simpa only [DenKV]using q
 | (k,d)::r,_,q=>by
  simp only[DenKV]at q ⊢;obtain⟨x,es,h1,h2,h3,h4,h5⟩:=q;exact⟨x,es,h1,h2,Den.junk h k h3,Den.junk h d h4,DenKV.junk h r h5⟩
end
def b2d(a:au):VS.cut (VS.cut H C) F a=VS.cut (VS.cut H F) C a:=by
 unfold VS.cut;by_cases h1:a∈F<;>by_cases h2:a∈C<;>simp[h1,h2]
def W1(h:Junk H C)(q:Den K (VS.cut H F) v d):Den K (VS.cut (VS.cut H C) F) v d:=
 (Den.junk h.cut d q).up λa o e=>by rw[b2d];exact e
mutual
theorem Own.junk(h:Junk H C):∀(u:Ty) {v:V} {d:ba} {fp:List au},Own K H F u v d fp→Own K (VS.cut H C) F u v d fp
 |.i,_,_,_,q=>by simp only[Own]at q ⊢;exact⟨q.1,q.2.1,W1 h q.2.2⟩
 |.f,_,_,_,q=>by simp only[Own]at q ⊢;exact⟨q.1,W1 h q.2⟩
 |.l u,_,_,_,q=>by
  simp only[Own]at q ⊢;rcases q with⟨h1,h2,q⟩|⟨a,xs,ds,fs,rfl,h1,rfl,rfl,h2⟩
  ·exact .inl ⟨h1,h2,W1 h q⟩
  ·exact .inr ⟨a,xs,ds,fs,rfl,j5 (h.out h1 λo z=>(nomatch z)) h1,rfl,rfl,h2.imp λv d f _ _ z=>Own.junk h u z⟩
 |.tp us,_,_,_,q=>by
  simp only[Own]at q ⊢;obtain⟨a,xs,ds,rfl,h1,h0,rfl,h2⟩:=q;exact⟨a,xs,ds,rfl,j5 (h.out h1 λo z=>(nomatch z)) h1,h0,rfl,OwnTs.junk h us h2⟩
 |.d kt u,_,_,_,q=>by
  simp only[Own]at q ⊢;obtain⟨a,es,ds,fs,rfl,h1,rfl,rfl,h3,h2⟩:=q;exact⟨a,es,ds,fs,rfl,a2B h h1,rfl,rfl,⟨h3.1,λx hx=>⟨(h3.2 x hx).1,W1 h (h3.2 x hx).2⟩⟩,h2.imp λv d f _ _ z=>Own.junk h u z⟩
theorem OwnTs.junk(h:Junk H C):∀(us:List Ty) {xs:List V} {ds:List ba} {fp:List au},OwnTs K H F us xs ds fp→OwnTs K (VS.cut H C) F us xs ds fp
 |[],_,_,_,q=>by simpa only [OwnTs]using q
 |u::us,_,_,_,q=>by
  simp only[OwnTs]at q ⊢;obtain⟨v,r,d,e,f,g,rfl,rfl,rfl,h1,h2⟩:=q;exact⟨v,r,d,e,f,g,rfl,rfl,rfl,Own.junk h u h1,OwnTs.junk h us h2⟩
end
def a5S(k:HOk P w H h)(j:Junk H C):HOk P w (VS.cut H C) h:=λa o e=>by
 obtain⟨na,e'⟩:=o6 e;refine (k a o e').stay (λb u _ q=>q) (λb q=>j5 (j.out q λo z=>(nomatch z)) q) λb u q=>j5 (λhb=>?_) q
 obtain⟨u,hu⟩:=u;obtain⟨ob,z⟩:=j b hb u q;subst z;have rT:b=a:=hu;exact na (rT▸hb)
def a9Z(t:TabsIn K H)(j:Junk H C):TabsIn K (VS.cut H C):=λx hx p e=>by
 obtain⟨qs,t',e1,e2⟩:=t x hx p e;exact⟨qs,t',j5 (j.out e1 λo z=>(nomatch z)) e1,e2⟩
end
end VS
namespace VS
open PySem PySem.Spec L2 PyProof.Rows
def FnV(P:br)(w:bL)(K:ag)(mg:bC→Option ah)(base:bN)(k n:Nat)(u:Ty)(m:List D→Option D)(H:Hp)(v:V):Prop:=
 ∃fa fo,v=.ref fa∧H fa=el (.frz fo (.own fa))∧(∃fd,fo.data=.func fd)∧
  ∀(A:bD) (outer:List n_) (s:ai) (us:List ah) (vs:List V) (Q:VK) (E:XK),Room k A→Env0 P w K mg base A outer s H→Vals vs us→spD K n m u vs H Q E→
   gF (aV P w) A (.call (.ref fa) ⟨us,[]⟩) (CR CX0 outer P w H s Q E) s
section
variable {X:Cx}{M:List Md}{a e0:Expr}{es:List Expr}{fa:EvE}{f:EvA}{ca:Cat}{u:Ty}{x:bC}{p pos:ff}
def b7B(X:Cx)(i k n:Nat)(u:Ty)(m:List D→Option D)(t:TA):TE:=λσ H Q=>∃v,σ[i]?=el (el v)∧t σ H λvs H1=>FnV X.prog X.w X.K X.mg X.base k n u m H1 v∧spD X.K n m u vs H1 Q E0
def b2e(hr:Room k X.A)(ha:PA X (e0::es) t)(hN:X.N[i]?=el x)(hv:Vis X.env.scope x)(hd:(x==("__debug__":bC))=false)(iJ:(x==("__classdict__":bC))=false)
  (he:aw (e0::es) X.env=(false,cy e0 X.env)::aw es X.env) (fJ:(cx pos (aw es X.env)).any (·.1)=false):PE X (.Call (.Name x p) (e0::es) [] pos) (b7B X i k n u m t):=by
 intro pins s σ H Q I ⟨v,e,h⟩;refine fA (L2.thn (C0 hN hv hd iJ pins s σ H (λv' H'=>v'=v∧H'=H) I ⟨v,e,rfl,rfl⟩) λu1 s1 ⟨v',H',I1,r1,z1,z2⟩=>?_);subst z1;subst z2;rw[he];refine PySem.W.callWith_of (P:=λh=>∃fa fo fd,u1=.ref fa∧h.get? fa=el fo∧fo.data=.func fd) (by show ((false||(cx pos (aw es X.env)).any (·.1))||false)=false;rw[fJ];rfl) (λh ⟨fa,fo,fd,q1,q2,q3⟩=>?_) (nr ?_)
 ·subst q1;obtain⟨cls,dict,data,slots⟩:=fo;have BX:data=.func fd:=q3;subst BX;exact⟨.frame,.inl rfl,(PySem.W.Looks.ld (part:=p4) q2).andThen .now⟩
 ·have sf:=ha pos pins s1 σ H' _ I1 h;rw[he]at sf;refine L2.thn sf λus s2 ⟨vs,H2,I2,r2,⟨fa,fo,q1,q2,⟨fd,q3⟩,q4⟩,q5⟩=>⟨?_,?_⟩
  ·have xx:u1=.ref fa:=by rw[q1]at r1;exact r1
   exact⟨fa,fo,fd,xx,(I2.hok fa _ q2).1,q3⟩
  ·have xx:u1=.ref fa:=by rw[q1]at r1;exact r1
   subst xx;refine uB (fK (q4 X.A X.stack s2 us vs Q E0 hr I2.env0 r2 q5) λr s' hq=>?_);cases r with
   |error e=>exact cK hq
   |ok fl=>
    cases fl with
    |ret u=>exact I2.after hq
    |next=>exact cK hq
    |brk=>exact cK hq
    |cont=>exact cK hq
def StE.getF{K:ag}{ρ:List D}{σ:L2.St}{H P:Hp}{F:List au}{Φ:Hp→V→Prop}(h:StE K M ρ σ H P F){i:Nat}(hm:M[i]?=el (.fn Φ)):∃v,σ[i]?=el (el v)∧∀H',Same (cut H F) H'→Φ H' v:=by
 obtain⟨G,h1,h3⟩:=h.all;obtain⟨d,o,f,pre,post,e1,e2,⟨_,v,rfl,q⟩,e4,_⟩:=h1.at_ hm;exact⟨v,e2,q⟩
def b2f(i:Nat){k n:Nat}{m:List D→Option D}(hr:Room k X.A)(h:PAX X M (e0::es) f)(hm:M[i]?=el (.fn (FnV X.prog X.w X.K X.mg X.base k n u m)):=by rfl)(hu:u.shut=true:=by rfl)(hl:(e0::es).length=n:=by rfl)(hfl:∀ρ ds,f ρ=el ds→ds.length=(e0::es).length)
  (hN:X.N[i]?=el x:=by rfl) (hv:Vis X.env.scope x:=by first|exact cn rfl|exact bY (cn rfl)|exact bY (bY rfl)) (kM:(x==("__debug__":bC))=false:=by decide) (iJ:(x==("__classdict__":bC))=false:=by decide)
  (he:aw (e0::es) X.env=(false,cy e0 X.env)::aw es X.env:=by rfl) (fJ:(cx pos (aw es X.env)).any (·.1)=false:=by rfl) :
  PX X M (.Call (.Name x p) (e0::es) [] pos) (eCl m f) (.new u):=by
 obtain⟨t,pa,qa⟩:=h;refine .mk ⟨_,b2e (i:=i) (n:=n) (m:=m) (u:=u) hr pa hN hv kM iJ he fJ,λρ σ H P F d Q S hf q=>?_⟩;obtain⟨ds,h1,hf⟩:=bnd hf;obtain⟨v,xR,xQ⟩:=S.getF hm;refine⟨v,xR,qa ρ σ H P F ds _ S h1 λvs H1 e1 r1=>⟨xQ H1 (i7.trans e1),?_⟩⟩;refine⟨ds,d,by rw[r1.length,hfl ρ ds h1,hl],r1,hf,λv H' fp e o nd fr=>q v H' (e1.trans e) ⟨fp,o.shut_out (λa ha=>?_) u hu,nd,λa ha=>e1.free (fr a ha)⟩⟩;rcases aF.mp ha with z|z
 ·exact o.lst u a z
 ·exact S.lst' (e1.trans e) a z
end
def spL(K:ag)(n:Nat)(Φ:(List D→Option D)→Hp→V→Prop)(m:(List D→Option D)→List D→Option D)(u:Ty):Sp:=λvs H Q _=>∃rs v gm ds d,vs=rs++[v]∧rs.length=n∧DenAll K H rs ds∧(∀H',Same H H'→Φ gm H' v)∧m gm ds=el d∧
 ∀v H' fp,Same H H'→Own K H' fp u v d fp→fp.Nodup→(∀a∈fp,H a=p4)→Q v H'
def fnL(us:List Ty)(n:Nat)(g:(List D→Option D)→EvS):(List D→Option D)→List D→Option D:=λgm ds=>if argsOk us ds then (g gm (ds++(.none::aO n .none))).bind λo=>match o with
 |.rt d=>el d
 |_=>p4
 else p4
theorem StAll.app{K:ag}{H:Hp}{F:List au}:∀{M1 M2:List Md} {ρ1 ρ2:List D} {σ1 σ2:L2.St} {f1 f2:List au},StAll K H F M1 ρ1 σ1 f1→StAll K H F M2 ρ2 σ2 f2→StAll K H F (M1++M2) (ρ1++ρ2) (σ1++σ2) (f1++f2)
 |[],_,_,_,_,_,_,_,h,q=>by simp only[StAll]at h;obtain⟨rfl,rfl,rfl⟩:=h;exact q
 |m::M,_,_,_,_,_,_,_,h,q=>by
  simp only[StAll]at h;obtain⟨d,ρ,o,σ,f,g,rfl,rfl,rfl,h1,h2⟩:=h;rw[bp];exact k7 h1 (StAll.app h2 q)
theorem a1x{K:ag}{H:Hp}{F:List au}:∀n:Nat,StAll K H F (aO n .dead) (aO n .none) (aO n p4) []
 |0=>J8
 |n+1=>k7 (f:=[]) (g:=[]) rfl (a1x n)
def b2g{P:br}{w:bL}{K:ag}{mg:bC→Option ah}{base:bN}{x:bC}{st:gM}{f:au}{fd:dC}{N ps:List bC}{k n:Nat}{us:List Ty}{u:Ty}{Φ:(List D→Option D)→Hp→V→Prop}{g:(List D→Option D)→EvS}{M':(List D→Option D)→List Md}(F:Fun K x x st f fd)(S:FnScope N ps (i8 st))(mO:us.length+1=ps.length)(hn:N.length=ps.length+n)
  (hb:∀(gm:List D→Option D) (gd:ah) (A:bD) (outer:List n_) (s:ai) (H:Hp) (E:XK),Room k (A.deeper (iY x (i8 st) s.heap.objs.size f gd))→PSsX (a0a CX0 P w K mg base N x (i8 st) f gd A outer s H E).nox u [] (us.map .own++(.fn (Φ gm)::aO n .dead)) (v4 st) (g gm) (M' gm)) :
  FnOk P w K mg base CX0 (k+1) f fd ps (spL K us.length Φ (fnL us n g) u):=by
 refine F.ok S (λvs H Q E h=>?_) (λgd A outer s H vs Q E hr h=>?_)
 ·obtain⟨rs,v,gm,ds,d,rfl,hl,_⟩:=h;rw[bg,hl];exact mO
 obtain⟨rs,v,gm,ds,d,rfl,hl,hd,hΦ,hm,q⟩:=h;obtain⟨t,p,r⟩:=(hb gm gd A outer s H E hr).out;refine⟨t,p,?_⟩;unfold fnL at hm;by_cases ha:argsOk us ds=true
 ·rw[aB ha]at hm;obtain⟨o,h1,h2⟩:=bnd hm;cases o with
  |rt d'=>
   have jh:el d'=el d:=h2;cases jh
   have e:L2.start N (rs++[v])=rs.map el++(el v::aO n p4):=by
    unfold L2.start;rw[show N.length-(rs++[v]).length=n by rw[bg,hl];show N.length-(us.length+1)=n;lia];simp
   rw[e];have h0:=Q3 (K:=K) (H:=H) ha hd 0;simp only[gL,bE]at h0;have qW:=h0.app (k7 (K:=K) (H:=H) (F:=[]) (m:=.fn (Φ gm)) (d:=jz) (o:=el v) (f:=[]) ⟨rfl,v,rfl,λH' e'=>hΦ H' (by rw[J0]at e';exact e')⟩ (a1x n));refine r _ _ _ H H [] (.rt d) ⟨⟨_,qW,bA,λa ha=>(nomatch ha)⟩,λa ha=>(nomatch ha),by rw[J0];exact Same.refl H⟩ h1 ?_;exact λv H' fp o nd fr e=>q v H' fp e o nd fr
  |_=>cases h2
 ·rw[aI ha]at hm;cases hm
section
variable {X:Cx}{M:List Md}{e0:Expr}{es:List Expr}{f:EvA}{u:Ty}{x y:bC}{p pv pos:ff}
def a4V:∀(ρ:List D) ds,g8 ρ=el ds→ds.length=0:=λρ ds h=>by cases h;rfl
def O6(h:∀ρ ds,fr ρ=el ds→ds.length=n):∀ρ ds,b8 fa fr ρ=el ds→ds.length=n+1:=λρ ds q=>by
 obtain⟨x,h1,q⟩:=bnd q;obtain⟨xs,h2,q⟩:=bnd q;cases q
 rw[bh,h ρ xs h2]
noncomputable def PAL(X:Cx)(M:List Md)(es:List Expr)(f:EvA)(Ψ:Hp→V→Prop):Prop:=
 ∃t,PA X es t∧∀(ρ:List D) (σ:L2.St) (H P:Hp) (F:List au) (ds:List D) (Q:List V→Hp→Prop),StE X.K M ρ σ H P F→f ρ=el ds→
  (∀vs v H',Same H H'→DenAll X.K H' vs ds→Ψ H' v→Q (vs++[v]) H')→t σ H Q
def O7(ha:PX X M a fa ca)(hr:PAL X M es fr Ψ)(hs:aw (a::es) X.env=(false,cy a X.env)::aw es X.env:=by rfl):PAL X M (a::es) (b8 fa fr) Ψ:=by
 obtain⟨ta,pa,qa⟩:=ha.out;obtain⟨tr,pr,qr⟩:=hr;refine⟨_,l5 pa pr hs,λρ σ H P F ds Q S hf q=>?_⟩;obtain⟨x,h1,hf⟩:=bnd hf;obtain⟨xs,h2,hf⟩:=bnd hf;cases hf
 exact qa ρ σ H P F _ _ S h1 λv H1 e1 r1=>qr ρ σ H1 P F _ _ (S.grow e1) h2 λvs w H2 e2 r2 hw=>q (v::vs) w H2 (e1.trans e2) (denAll_cons (r1.den.up e2) r2) hw
def a8u(i:Nat){Φ:Hp→V→Prop}(hm:M[i]?=el (.fn Φ):=by rfl)(hN:X.N[i]?=el y:=by rfl)(hv:Vis X.env.scope y:=by first|exact cn rfl|exact bY (cn rfl)|exact bY (bY rfl))(hd:(y==("__debug__":bC))=false:=by decide)(iJ:(y==("__classdict__":bC))=false:=by decide)
  (hs:aw [.Name y pv] X.env=(false,cy (.Name y pv) X.env)::aw [] X.env:=by rfl):PAL X M [.Name y pv] g8 λH v=>∀H',Same H H'→Φ H' v:=by
 refine⟨_,l5 (C0 hN hv hd iJ) p0 hs,λρ σ H P F ds Q S hf q=>?_⟩;cases hf
 obtain⟨v,h1,h2⟩:=S.getF hm;exact⟨v,h1,q [] v H (Same.refl _) denAll_nil λH' e=>h2 H' (i7.trans e)⟩
noncomputable def b0a(m:(List D→Option D)→List D→Option D)(gm:List D→Option D)(f:EvA):EvE:=λρ=>(f ρ).bind (m gm)
def a3Q(W:Has X.prog X.w X.K X.mg X.base x k ps (spL X.K n Φ m u))(hr:Room k X.A)(h:PAL X M (e0::es) f λH v=>∀H',Same H H'→Φ gm H' v)(hfl:∀ρ ds,f ρ=el ds→ds.length=n)(hu:u.shut=true:=by rfl)
  (hg:Gl X x:=by rfl) (kM:(x==("__debug__":bC))=false:=by decide) (he:aw (e0::es) X.env=(false,cy e0 X.env)::aw es X.env:=by rfl) (fJ:(cx pos (aw es X.env)).any (·.1)=false:=by rfl) :
  PX X M (.Call (.Name x p) (e0::es) [] pos) (b0a m gm f) (.new u):=by
 obtain⟨t,pa,qa⟩:=h;refine .mk ⟨_,a4w W hr pa hg kM he fJ,λρ σ H P F d Q S hf q=>?_⟩;obtain⟨ds,h1,hf⟩:=bnd hf;refine qa ρ σ H P F ds _ S h1 λvs v H1 e1 r1 hΦ=>?_
 show spL X.K n Φ m u ((vs++[v])++[]) H1 Q E0;rw[bE];refine⟨vs,v,gm,ds,d,rfl,by rw[r1.length];exact hfl ρ ds h1,r1,hΦ,hf,λv H' fp e o nd fr=>q v H' (e1.trans e) ⟨fp,o.shut_out (λa ha=>?_) u hu,nd,λa ha=>e1.free (fr a ha)⟩⟩;rcases aF.mp ha with z|z
 ·exact o.lst u a z
 ·exact S.lst' (e1.trans e) a z
end
def a5T:∀(l r:List ah),jX l→jX r→jX (l++r):=by
 intro l
 fun_induction jX l with
 |case1=>intro r _ h;exact h
 |case2 a t b u c rest ih=>intro r h1 h2;simp only[bx,jX];exact ih r h1 h2
 |case3=>intro r h;exact h.elim
def b0b:∀(l r:List ah),jX l→ly pos (l++r)=el cv→ly pos l=el cv∨ly pos r=el cv:=by
 intro l
 fun_induction jX l with
 |case1=>intro r _ h;exact .inr h
 |case2 a t b u c rest ih=>
  intro r h1 h2;simp only[bx,ly]at h2 ⊢
  split at h2
  ·rename_i hc
   rw[aB hc];exact .inl h2
  ·rename_i hc
   rw[aI hc];exact ih r h1 h2
 |case3=>intro r h;exact h.elim
def LamO(q:bC)(params:lH)(body:Expr)(scope:fZ)(clos:List (bC×au))(H:Hp)(fa:au):Prop:=
 ∃pm c' lS oc vs t b,H fa=el (.frz (eF "<lambda>" q params body scope clos pm c' lS) (.own fa))∧H c'=el (.frz oc (.own b))∧oc.data=.fields vs∧vs[1]?=el (.str q t)
def LamO.up(h:LamO q params body scope clos H fa)(e:Same H H'):LamO q params body scope clos H' fa:=by
 obtain⟨pm,c',lS,oc,vs,t,b,h1,h2,h3⟩:=h;exact⟨pm,c',lS,oc,vs,t,b,e _ _ h1,e _ _ h2,h3⟩
def b9i(q:bC)(params:lH)(body:Expr)(scope:fZ)(clos:List (bC×au)):TE:=λ_ H Q=>∀fa H',Same H H'→LamO q params body scope clos H' fa→Q (.ref fa) H'
def b0c{X:Cx}(hx:x∈K0)(hP:B0 X.K x=el P)(hc:X.env.code=.ref c)(hd:gq X.base c P)(hq:X.env.qual++"<lambda>"=S7 x)
  (tw:oI scope X.env=pure clos) (tu:defaultsOf params X.env=([],[])):PE X (.Lambda params body scope jI) (b9i (S7 x) params body scope clos):=by
 intro pins s σ H Q I h;refine PySem.W.kla_eval tu ?_;rw[hq];obtain⟨qs,t0,e1,e2⟩:=I.tabs x hx P hP;obtain⟨ps,vI,ht,hf⟩:=(show a5k H s.heap P qs from I.hok P _ e1);have vq:s.heap.Ns bP X.mg:=I.mod.glob.keeps I.bk;obtain⟨bm,ob,b1,b2,b3,b4,b5,b6⟩:=I.mod.bmain;have DE:bP≠P:=λq=>by
  obtain⟨o,es,ep,e,km,_⟩:=vq;rw[q,vI]at e;cases e;cases km
 have D_:bm≠P:=λq=>by
  have e:=I.bk _ _ b3;rw[q,vI]at e;cases e;cases b4
 have Eb:bm≠bP:=λq=>by
  obtain⟨o,es,ep,e,km,_⟩:=I.mod.glob;rw[q,e]at b3;cases b3;rw[km]at b6;cases b6
 have hB:s.heap.BuiltinsAt X.mg P:=⟨bm,ob,b1,b2,Eb,D_,I.bk _ _ b3,b4,b5,b6⟩;have hC:gq s.heap c P:=hd.keeps I.bk;cases hn:ly jI ps.toList with
 |some cv=>
  obtain⟨c',oc,vs,q,t,t',rfl,z2,z3,z4,z5⟩:=hf jI cv hn;rw[e2]at z5;have By:rl (S7 x) t0=rl q t':=aK z5;cases By
  refine PySem.W.kla_makeFunctionHit (mg:=X.mg) tw I.ok.glob vq hc hC vI ht hn hB λlS h' tk hk hsz=>?_
  have nM:H h'.objs.size=p4:=I.hok.fresh hsz;have I':=I.laid (a:=h'.objs.size) (o:=.frz (eF "<lambda>" (S7 x) params body scope clos ((X.mg "__name__").getD .none) c' lS) (.own h'.objs.size)) (t':=tk) (h':=h'.push (eF "<lambda>" (S7 x) params body scope clos ((X.mg "__name__").getD .none) c' lS)) (λb u e=>af _ (hk b u e)) hsz ⟨aE _ rfl,_,aE _ rfl⟩;refine⟨.ref h'.objs.size,_,I',rfl,h _ _ (k6 nM _) ⟨_,c',lS,oc,vs,t,P,i6,?_,z3,z4⟩⟩;rw[f7 (m7 z2 nM)];exact z2
 |none=>
  refine PySem.W.kla_makeFunction (mg:=X.mg) tw I.ok.glob vq hc hC vI ht hn DE hB λc' lS h' tk CG yA hW xY z_=>?_
  obtain⟨c2,oc,vs,t,rc,vc,AA,rS⟩:=xY;cases rc
  have Eg:P<s.heap.objs.size:=aG vI;have yN:H c'=p4:=I.hok.fresh yA;have Ax:s.heap.objs.size≤h'.objs.size:=dE (g_ yA hW);have nM:H h'.objs.size=p4:=I.hok.fresh Ax;have gj:c'≠h'.objs.size:=a_ hW;have low:∀b u,H b=el u→upd (upd H c' (.frz oc (.own P))) h'.objs.size (.frz (eF "<lambda>" (S7 x) params body scope clos ((X.mg "__name__").getD .none) c' lS) (.own h'.objs.size)) b=el u:=λb u e=>by
   rw[f7 (m7 e nM),f7 (m7 e yN)];exact e
  have xG:∀b,b<s.heap.objs.size→H b=p4→upd (upd H c' (.frz oc (.own P))) h'.objs.size (.frz (eF "<lambda>" (S7 x) params body scope clos ((X.mg "__name__").getD .none) c' lS) (.own h'.objs.size)) b=p4:=λb hb e=>by
   rw[f7 (a_ (bw hb Ax)),f7 (a_ (bw hb yA))];exact e
  have kp:∀b o,b≠P→s.heap.get? b=el o→(h'.push (eF "<lambda>" (S7 x) params body scope clos ((X.mg "__name__").getD .none) c' lS)).get? b=el o:=λb o hb e=>af _ (CG b o hb e)
  have nP:∀b,H b=p4→b≠P:=λb e z=>by rw[z,e1]at e;cases e
  have I':=I.un (t':=tk) (h':=h'.push (eF "<lambda>" (S7 x) params body scope clos ((X.mg "__name__").getD .none) c' lS)) (H':=upd (upd H c' (.frz oc (.own P))) h'.objs.size (.frz (eF "<lambda>" (S7 x) params body scope clos ((X.mg "__name__").getD .none) c' lS) (.own h'.objs.size)))
   ⟨λb o e n _ _=>kp b o (nP b n) e,λb o e n _ _=>⟨o.slots,kp b o (nP b n) e⟩,λb o e n _=>xG b (aG e) n,λb o e _=>by
    by_cases hb:b=P
    ·exact⟨_,by rw[hb];exact af _ z_⟩
    ·exact⟨o,kp b o hb e⟩,λb xs e=>low b _ e,λb o u e=>low b _ e,λb Fq e=>⟨#[],by rw[low b _ e];simp⟩⟩ (λb u e=>by
    by_cases vB:b=h'.objs.size
    ·subst vB;rw[i6]at e;cases e
     exact⟨aE _ rfl,_,aE _ rfl⟩
    ·rw[f7 vB]at e;by_cases wK:b=c'
     ·subst wK;rw[i6]at e;cases e
      exact⟨af _ vc,_,af _ vc⟩
     ·rw[f7 wK]at e;by_cases AH:b=P
      ·subst AH;rw[e1]at e;cases e
       refine⟨_,af _ z_,?_,λpos cv z=>?_⟩
       ·have:(ps++#[cY jI.line,cY jI.col,aW c']).toList=ps.toList++[cY jI.line,cY jI.col,aW c']:=by simp
        rw[this];exact a5T _ _ ht trivial
       ·have:(ps++#[cY jI.line,cY jI.col,aW c']).toList=ps.toList++[cY jI.line,cY jI.col,aW c']:=by simp
        rw[this]at z;rcases b0b _ _ ht z with z|z
        ·obtain⟨c3,Cg,BE,q3,t3,t4,y1,y2,y3,y4,y5⟩:=hf pos cv z;exact⟨c3,Cg,BE,q3,t3,t4,y1,low _ _ y2,y3,y4,y5⟩
        ·have z':cv=.ref c':=by
          simp only[cY,ly]at z
          split at z
          ·exact (aK z).symm
          ·cases z
         refine⟨c',oc,vs,S7 x,t,t0,z',?_,AA,rS,e2⟩;rw[f7 gj,i6]
      ·refine (I.hok b u e).stay (λd v km q=>kp d v (λz=>?_) q) (λd q=>low _ _ q) λd v q=>low _ _ q
       rcases km with z'|z'
       ·exact AH (z'.symm.trans z)
       ·rw[z,e1]at z';cases z')
  refine⟨.ref h'.objs.size,_,I',rfl,h _ _ (λb u e=>low b u e) ⟨_,c',lS,oc,vs,t,P,i6,?_,AA,rS⟩⟩;rw[f7 gj,i6]
def a8v(P:br)(w:bL)(K:ag)(mg:bC→Option ah)(base:bN)(N:List bC)(q:bC)(scope:fZ)(f:au)(cd:ah)(cl:List (bC×au))(A:bD)(outer:List n_)(s:ai)(H:Hp):Cx where
 prog:=P
 w:=w
 K:=K
 mg:=mg
 base:=base
 A:=A.deeper (jj q scope s.heap.objs.size f cd cl)
 N:=N
 s₀:=s
 H₀:=H
 env:=jj q scope s.heap.objs.size f cd cl
 outer:=outer
 stack:=jj q scope s.heap.objs.size f cd cl::outer
 ex:=[]
 calm:=true
 fn:=λ_=>false
 pn:=[]
 xe:=λ_ _=>False
structure LamScope (N ps ys:List bC) (sc:fZ) (cl:List (bC×au)):Prop where
 kind:sc.kind=.function
 co:sc.isCoroutine=false
 gen:sc.isGenerator=false
 nd:N.Nodup
 pre:N=ps++ys
 par:∀x∈ps,sc.names.lookup x=el .local
 fre:∀y∈ys,sc.names.lookup y=el .free
 ncell:∀x∈sc.names,x.2≠.cell
 has:(sc.names.all λx=>x.2 !=.free||(cl.lookup x.1).isSome)=true
def CellsIn(cl:List (bC×au))(H:Hp):List bC→List V→Prop
 |[],vs=>vs=[]
 |y::ys,vs=>∃v r c ob uo,vs=v::r∧cl.lookup y=el c∧H c=el (.frz ob (.own c))∧ob.data=.cell (el uo)∧RelV v uo∧CellsIn cl H ys r
section
variable {cl:List (bC×au)}{H H':Hp}
theorem CellsIn.up(e:Same H H'):∀{ys:List bC} {vs:List V},CellsIn cl H ys vs→CellsIn cl H' ys vs
 |[],_,h=>h
 |y::ys,_,h=>by
  obtain⟨v,r,c,ob,uo,h1,h2,h3,h4,h5,h6⟩:=h;exact⟨v,r,c,ob,uo,h1,h2,e _ _ h3,h4,h5,CellsIn.up e h6⟩
theorem CellsIn.len:∀{ys:List bC} {vs:List V},CellsIn cl H ys vs→vs.length=ys.length
 |[],_,h=>by rw[show _=[] from h];rfl
 |y::ys,_,h=>by
  obtain⟨v,r,c,ob,uo,rfl,h2,h3,h4,h5,h6⟩:=h;rw[bh,bh,CellsIn.len h6]
theorem CellsIn.get:∀{ys:List bC} {vs:List V} {i:Nat} {y:bC} {v:V},CellsIn cl H ys vs→ys[i]?=el y→vs[i]?=el v→∃c ob uo,cl.lookup y=el c∧H c=el (.frz ob (.own c))∧ob.data=.cell (el uo)∧RelV v uo
 |[],_,i,y,v,_,e,_=>by simp at e
 |y0::ys,_,0,y,v,h,e1,e2=>by
  obtain⟨v',r,c,ob,uo,rfl,h2,h3,h4,h5,h6⟩:=h;have ER:y0=y:=by simpa using e1
  have vR:v'=v:=by simpa using e2
  subst ER vR;exact⟨c,ob,uo,h2,h3,h4,h5⟩
 |y0::ys,_,i+1,y,v,h,e1,e2=>by
  obtain⟨v',r,c,ob,uo,rfl,h2,h3,h4,h5,h6⟩:=h;exact CellsIn.get h6 (by simpa using e1) (by simpa using e2)
end
def b2h(cl:List (bC×au))(H:Hp):Prop:=∀y c,cl.lookup y=el c→∃ob uo,H c=el (.frz ob (.own c))∧ob.data=.cell uo
noncomputable def fnE(us:List Ty)(qB:List D)(f:EvE):List D→Option D:=λds=>if argsOk us ds then f (ds++qB) else p4
theorem b5F{K:ag}{H:Hp}:∀{vs:List V} {ds:List D},DenAll K H vs ds→StAll K H [] (aO vs.length (.own .f)) ds (vs.map el) []
 |_,[],h=>by rw[h.nil_inv];exact J8
 |_,d::ds,h=>by
  obtain⟨v,r,rfl,h1,h2⟩:=h.cons_inv;refine k7 (K:=K) (H:=H) (F:=[]) (m:=.own .f) (f:=[]) (g:=[]) ⟨v,rfl,?_⟩ (b5F h2);simp only[Own,J0];exact⟨trivial,h1⟩
theorem a1y:∀(ps:List α) (us:List β),((ps.zip us).map (·.1)).Sublist ps
 |[],_=>by rw[Bq];exact Bu _
 |p::ps,[]=>by rw[List.zip_nil_right];exact List.nil_sublist _
 |p::ps,u::us=>by rw[dZ,aA];exact (a1y ps us).cons₂ p
def a2C{ps:List bC}{us:List ah}:∀{i:Nat} {y:bC} {v:ah},ps.Nodup→ps[i]?=el y→us[i]?=el v→(ps.zip us).reverse.lookup y=el v:=by
 intro i y v nd h1 h2;have hm:(y,v)∈(ps.zip us).reverse:=by
  rw[kj];exact bo (by rw[jE];exact⟨h1,h2⟩)
 have hk:(((ps.zip us).reverse).map (·.1)).Nodup:=by
  rw[Fg];have h0:((ps.zip us).map (·.1)).Nodup:=nd.sublist (a1y ps us);exact List.pairwise_reverse.mpr (h0.imp λz=>dN z)
 have key:∀l:List (bC×ah),(l.map (·.1)).Nodup→(y,v)∈l→l.lookup y=el v:=by
  intro l
  induction l with
  |nil=>intro _ h;cases h
  |cons p l ih=>
   intro hn hm;rw[aA,bt]at hn;obtain⟨k,z⟩:=p;rcases az.mp hm with e|e
   ·cases e;simp[List.lookup]
   ·have:(y==k)=false:=by
     rw[gJ];intro q;exact hn.1 (q▸aY.mpr ⟨_,e,rfl⟩)
    rw[fN,this];exact ih hn.2 e
 exact key _ hk hm
def b4B{P:br}{w:bL}{K:ag}{mg:bC→Option ah}{base:bN}{k:Nat}{q:bC}{params:lH}{body:Expr}{scope:fZ}{cl:List (bC×au)}{N ps ys:List bC}{us:List Ty}{u:Ty}{f:EvE}{kX:List V}{qB:List D}{H:Hp}{fa:au}
  (L:LamO q params body scope cl H fa) (S:LamScope N ps ys scope cl) (sX:∀x y c,cl.lookup x=el c→cl.lookup y=el c→x=y) (hC:CellsIn cl H ys kX) (wV:b2h cl H) (hD:DenAll K H kX qB) (mO:us.length=ps.length)
  (mT:∀(pm:ah) (c:au) (lS:ah) (us:List ah),us.length=ps.length→pW (PySem.W.kla_fn "<lambda>" q params body scope cl pm (.ref c) lS) ⟨us,[]⟩=pure (ps.zip us))
  (hb:∀(c:au) (A:bD) (outer:List n_) (s:ai) (H:Hp),Room k (A.deeper (jj q scope s.heap.objs.size fa (.ref c) cl))→PX (a8v P w K mg base N q scope fa (.ref c) cl A outer s H) (us.map .own++aO ys.length (.own .f)) body f (.new u)) :
  FnV P w K mg base (k+1) ps.length u (fnE us qB f) H (.ref fa):=by
 obtain⟨pm,c',lS,oc,BF,t0,b0,l1,l2,l3,l4⟩:=L;refine⟨fa,_,rfl,l1,⟨_,rfl⟩,λA outer s as vs Q E hr e0 rv ⟨ds,d,hl,hd,hm,hq⟩=>?_⟩;obtain⟨C,memC,uR⟩:∃C:List au,(∀c∈C,∃y,cl.lookup y=el c)∧∀y c,cl.lookup y=el c→c∈C:=
  ⟨(cl.map (·.1)).filterMap λy=>cl.lookup y,λc hc=>let⟨y,_,e⟩:=ef.mp hc;⟨y,e⟩,λy c e=>ef.mpr ⟨y,aY.mpr ⟨(y,c),bZ e,rfl⟩,e⟩⟩
 have J:Junk H C:=λa ha u e=>by
  obtain⟨y,hy⟩:=memC a ha;obtain⟨ob,uo,h1,_⟩:=wV y a hy;rw[h1]at e;cases e
  exact⟨ob,rfl⟩
 have Ct:∀a∈C,∃u,H a=el u:=λa ha=>by
  obtain⟨y,hy⟩:=memC a ha;obtain⟨ob,uo,h1,_⟩:=wV y a hy;exact⟨_,h1⟩
 have lim:s.heap.NoLimit:=e0.mod.nolimit.keeps λb o e=>(e0.bs b o e).1
 have ho:s.heap.get? fa=el (eF "<lambda>" q params body scope cl pm c' lS):=(e0.hok fa _ l1).1;have DO:s.heap.CodeRec (.ref c') q:=⟨c',oc,BF,t0,rfl,(e0.hok c' _ l2).1,l3,l4⟩;have tG:as.length=ps.length:=by rw[←rv.length];exact hl
 have Cj:ps.Nodup:=by have:=S.nd;rw[S.pre]at this;exact this.sublist (List.sublist_append_left _ _)
 refine PySem.W.kla_callFunE hr.depth ho rfl S.co S.gen rfl DO ?_;rw[mT pm c' lS as tG];refine ae (wpAny_newFunctionEnv S.ncell (λy hy=>S.par _ (gU hy).1) (λh₁ qm Ad=>⟨lim.fresh _ Ad,?_⟩) S.kind);show gF _ _ (.expr body (jj q scope s.heap.objs.size fa (.ref c') cl)) _ _;have nV:∀b o,s.heap.get? b=el o→h₁.get? b=el o:=λb o e=>Ad.extBut b o (a_ (aG e)) (af _ e)
 have sG:∀b:au,b∉(a8v P w K mg base N q scope fa (.ref c') cl A outer s (VS.cut H C)).ex:=λb z=>absurd (show b∈([]:List au) from z) (by simp)
 have Dt:N.length=ps.length+ys.length:=by rw[S.pre,bg]
 have I:Inv (a8v P w K mg base N q scope fa (.ref c') cl A outer s (VS.cut H C)) [] (vs.map el++kX.map el) (VS.cut H C) {s with heap:=h₁,toks:=s.toks+(ps.zip as).length}:=by
  refine⟨⟨e0.mod,S.kind,rfl,rfl,aD _,sX,λx hx=>?_,λx c hx _=>(nomatch hx),λ_=>hr.hd,bD.frames_deeper e0.frames,.inr ⟨rfl,rfl⟩,λb z=>absurd z (sG b),λb o e=>⟨(e0.bs b o e).1,y9 (e0.bs b o e).2⟩,e0.bsz,λb _ _=>sG b,λb z=>absurd z (sG b),e0.funs,λb hb=>y9 (e0.frf b hb),a9Z e0.tabs J⟩,
   rfl,e0.bare,Un.kept nV,⟨_,qm,λi x v h1 h2 h3=>?_⟩,λx c e=>?_,y9 (e0.hok.fresh (aD _)),λx c e=>T5 (uR x c e),λp hp=>absurd (show p∈([]:List (au×fD)) from hp) (by simp),(a5S e0.hok J).kept nV,?_⟩
  ·have sJ:scope.names.lookup x=el .cell∨scope.names.lookup x=el .free:=hx;rcases sJ with z|z
   ·exact absurd rfl (S.ncell _ (bZ z))
   ·have w:=bj.mp S.has _ (bZ z);rw[gX]at w;rcases w with w|w
    ·exact absurd (show (fq !=fq)=true from w) (by decide)
    ·exact gQ.mp w
  ·have lx:(ps++ys)[i]?=el x:=by rw[←S.pre];exact h1
   by_cases hi:i<ps.length
   ·rw[gG hi]at lx;rw[gG (by rw[ar,hl];exact hi),aU]at h2;have jh:vs[i]?=el v:=by
     cases e:vs[i]? with
     |none=>rw[e]at h2;cases h2
     |some a=>rw[e]at h2;cases h2;rfl
    obtain⟨u',hu,r⟩:=rv.get jh;exact⟨u',r,.inl ⟨S.par x (bo lx),a2C Cj lx hu⟩⟩
   ·rw[eZ (by lia)]at lx;rw[eZ (by rw[ar,hl];lia),ar,aU,hl]at h2;have jh:kX[i-ps.length]?=el v:=by
     cases e:kX[i-ps.length]? with
     |none=>rw[e]at h2;cases h2
     |some a=>rw[e]at h2;cases h2;rfl
    obtain⟨c,ob,uo,z1,z2,z3,z4⟩:=hC.get lx jh;exact⟨uo,z4,.inr ⟨.inr (S.fre x (bo lx)),c,z1,ob,nV c ob (e0.hok c _ z2).1,z3⟩⟩
  ·obtain⟨ob,uo,z1,z2⟩:=wV x c e;exact⟨uo,ob,nV c ob (e0.hok c _ z1).1,z2⟩
  ·show _=N.length;rw[bg,ar,ar,hl,hC.len,Dt]
 obtain⟨t,pt,qt⟩:=(hb c' A outer s (VS.cut H C) (hr.deeper _)).out;unfold fnE at hm;by_cases ha:argsOk us ds=true
 ·rw[aB ha]at hm;have yK:DenAll K (VS.cut H C) vs ds:=DenAll.junk J ds hd;have DU:DenAll K (VS.cut H C) kX qB:=DenAll.junk J qB hD;have h0:=Q3 (K:=K) (H:=VS.cut H C) ha yK 0;simp only[gL,bE]at h0;have h1:=b5F DU;rw[hC.len]at h1;have SE:StE K (us.map .own++aO ys.length (.own .f)) (ds++qB) (vs.map el++kX.map el) (VS.cut H C) (VS.cut H C) []:=⟨⟨_,h0.app h1,λa ha=>(nomatch ha)⟩,λa ha=>(nomatch ha),by rw[J0];exact Same.refl _⟩;refine PySem.W.kla_codeExpr (cX (pt [] _ _ (VS.cut H C) (λv H'=>Same (VS.cut H C) H'∧ResR K (.new u) (VS.cut H C) H' [] v d) I (qt (ds++qB) _ (VS.cut H C) (VS.cut H C) [] d _ SE hm λv H' e r=>⟨e,r⟩)) (λv s' hs=>?_) λe s' hs=>(show False from hs).elim);obtain⟨v',H',J',r',e',fp,o,nd,fr⟩:=hs;have ot:∀c∈C,H' c=p4:=λc hc=>by
   obtain⟨y,hy⟩:=memC c hc;exact J'.freeC y c hy
  have inn:∀{b:au} {o:HO},H' b=el o→a5R C H H' b=el o:=λ{b o} q=>by
   rw[o7 (λz=>by rw[ot b z]at q;cases q)];exact q
  have nC:∀{b:au},H b=p4→b∉C:=λ{b} n z=>by
   obtain⟨u,hu⟩:=Ct b z;rw[n]at hu;cases hu
  have AW:∀a∈fp,a∉C:=λa ha z=>by
   obtain⟨ys,q⟩:=o.lst u a ha;rw[ot a z]at q;cases q
  refine (show CE outer P w H s Q v s' from⟨v',a5R C H H',J'.os,J'.bare,⟨λb o q n hb hx=>J'.base.keep b o q (y9 n) hb hx,λb o q n hb hx=>J'.base.slot b o q (y9 n) hb hx,λb o q n hx=>?_,J'.base.there,λb xs e=>?_,λb o u e=>?_,λb ps e=>?_⟩,λb o e=>?_,r',hq v' _ fp (λb o e=>?_) ?_ nd λa ha=>?_⟩)
  ·rw[o7 (nC n)];exact J'.base.free b o q (y9 n) hx
  ·have nb:=J.out e λo z=>(nomatch z)
   rw[o7 nb];exact J'.base.tups b xs (j5 nb e)
  ·by_cases hb:b∈C
   ·rw[a0p hb];exact e
   ·rw[o7 hb];exact J'.base.frzs b o u (j5 hb e)
  ·have nb:=J.out e λo z=>(nomatch z)
   obtain⟨more,z⟩:=J'.base.tbls b ps (j5 nb e);exact⟨more,by rw[o7 nb];exact z⟩
  ·by_cases hb:b∈C
   ·rw[a0p hb]at e;obtain⟨ob,rfl⟩:=J b hb o e;have z:=(e0.hok b _ e).1;have z':=J'.base.keep b ob z (T5 hb) (λy=>by rw[e0.frf b y]at e;cases e) (by intro y;exact absurd (show b∈([]:List au) from y) (by simp));exact⟨z',_,z'⟩
   ·rw[o7 hb]at e;exact (J'.hok b o e).stay (λ_ _ _ q=>q) (λb q=>inn q) λb u q=>inn q
  ·by_cases hb:b∈C
   ·rw[a0p hb];exact e
   ·rw[o7 hb];exact e' b o (j5 hb e)
  ·refine Own.frame (λb o' hb=>?_) u o λa ha=>o7 (AW a ha)
   obtain⟨n1,n2⟩:=o6 hb;exact j5 (λz=>n1 (aL _ z)) (inn n2)
  ·have:=fr a ha;rw[U8 (AW a ha)]at this;exact this
 ·rw[aI ha]at hm;cases hm
def a8w(X:Cx)(cl:List (bC×au)):List bC→List Nat→Prop
 |[],js=>js=[]
 |y::ys,js=>∃j r c,js=j::r∧X.N[j]?=el y∧X.env.kindOf y=el .cell∧X.env.cells.lookup y=el c∧cl.lookup y=el c∧a8w X cl ys r
def b9j(X:Cx)(cl:List (bC×au)):Prop:=∀p∈cl,X.env.cells.lookup p.1=el p.2∧X.fn p.1=true
def b4C(σ:L2.St):List Nat→List V→Prop
 |[],vs=>vs=[]
 |j::js,vs=>∃v r,vs=v::r∧σ[j]?=el (el v)∧b4C σ js r
def b7C(X:Cx)(cl:List (bC×au))(ys:List bC)(js:List Nat)(sp:Sp)(t:TA):TE:=λσ H Q=>t σ H λvs H1=>∃kX,b4C σ js kX∧
 ∀(H2:Hp) (C:List au),(∀x y c,cl.lookup x=el c→cl.lookup y=el c→x=y)→Same H1 H2→CellsIn cl H2 ys kX→b2h cl H2→Junk H2 C→(∀b,b∉C→H2 b=H1 b)→(∀b∈C,H1 b=p4)→sp vs H2 (λv H'=>Junk H' C→Q v (VS.cut H' C)) E0
theorem a5U{cl:List (bC×au)}(I:Inv X pins σ H s)(h2:∀y c,cl.lookup y=el c→∀ob,s.heap.get? c=el ob→H2 c=el (.frz ob (.own c))) :
  ∀{ys:List bC} {js:List Nat} {kX:List V},a8w X cl ys js→b4C σ js kX→CellsIn cl H2 ys kX
 |[],js,kX,h,q=>by
  rw[show js=[] from h]at q;exact q
 |y::ys,_,kX,h,q=>by
  obtain⟨j,r,c,rfl,h1,h3,h4,h5,h6⟩:=h;obtain⟨v,rs,rfl,q1,q2⟩:=q;obtain⟨m,hn,hl⟩:=I.loc;obtain⟨u,ru,lk⟩:=hl j y v h1 q1 (.inr (.inl h3));rcases lk with⟨k,_⟩|⟨k,c',e',ob,z1,z2⟩
  ·rw[h3]at k;cases k
  ·rw[h4]at e';cases e'
   exact⟨v,rs,c,ob,u,rfl,h5,h2 y c h5 ob z1,z2,ru,a5U I h2 h6 q2⟩
section
variable {X:Cx}{k:Nat}{f:au}{fd:dC}{ps:List bC}{sp:Sp}{x:bC}{p pos:ff}{e:Expr}{es:List Expr}{t:TA}{cl:List (bC×au)}{ys:List bC}{js:List Nat}
def b2i(F:FnOk X.prog X.w X.K X.mg X.base CX0 k f fd ps sp)(hr:Room k X.A)(hg:Gl X x)(hm:X.mg x=el (.ref f))(hk:fM X.K (.ref f)=true)(hb:Binds X.K fd ps [])(ha:PA X (e::es) t)(tD:a8w X cl ys js)(jf:b9j X cl)
  (kM:(x==("__debug__":bC))=false) (he:aw (e::es) X.env=(false,cy e X.env)::aw es X.env) (fJ:(cx pos (aw es X.env)).any (·.1)=false) :
  PE X (.Call (.Name x p) (e::es) [] pos) (b7C X cl ys js sp t):=by
 intro pins s0 σ H0 Q I0 h;refine fA (a4p I0 hg hm ?_ kM);refine zk (h₀:=X.base) I0.ok.mod.kin hk (L2.thn (ha pos pins s0 σ H0 _ I0 h) λus s ⟨vs,H,I,r,kX,DN,q⟩=>⟨I.kIn,?_⟩) he fJ;obtain⟨C,memC,uR⟩:∃C:List au,(∀c∈C,∃y,cl.lookup y=el c)∧∀y c,cl.lookup y=el c→c∈C:=
  ⟨(cl.map (·.1)).filterMap λy=>cl.lookup y,λc hc=>let⟨y,_,e⟩:=ef.mp hc;⟨y,e⟩,λy c e=>ef.mpr ⟨y,aY.mpr ⟨(y,c),bZ e,rfl⟩,e⟩⟩
 have nX:∀c∈C,∃y,X.env.cells.lookup y=el c∧X.fn y=true:=λc hc=>by
  obtain⟨y,hy⟩:=memC c hc;exact⟨y,jf _ (bZ hy)⟩
 have ot:∀c∈C,H c=p4:=λc hc=>by
  obtain⟨y,hy,_⟩:=nX c hc;exact I.freeC y c hy
 have mj:∀c∈C,∃ob v,s.heap.get? c=el ob∧ob.data=.cell v:=λc hc=>by
  obtain⟨y,hy,_⟩:=nX c hc;obtain⟨v,ob,z1,z2⟩:=I.cell y c hy;exact⟨ob,v,z1,z2⟩
 have rZ:∀c∈C,X.s₀.heap.objs.size≤c:=λc hc=>by
  obtain⟨y,hy,hf⟩:=nX c hc;exact I.ok.cab y c hf hy
 obtain⟨H2,pS,me⟩:∃H2:Hp,(∀c∈C,∀ob,s.heap.get? c=el ob→H2 c=el (.frz ob (.own c)))∧∀b,b∉C→H2 b=H b:=
  ⟨λb=>if b∈C then (s.heap.get? b).map (λo=>HO.frz o (.own b)) else H b,λc hc ob z=>by show (if c∈C then _ else _)=_;rw[aB hc,z];rfl,λb hb=>aI hb⟩
 have kZ:Same H H2:=λb o e=>by
  rw[me b (λz=>by rw[ot b z]at e;cases e)];exact e
 have J2:Junk H2 C:=λa hm u e=>by
  obtain⟨ob,v,z1,_⟩:=mj a hm;rw[pS a hm ob z1]at e;cases e
  exact⟨ob,rfl⟩
 have oA:HOk X.prog X.w H2 s.heap:=λb o e=>by
  by_cases hb:b∈C
  ·obtain⟨ob,v,z1,_⟩:=mj b hb;rw[pS b hb ob z1]at e;cases e
   exact⟨z1,_,z1⟩
  ·rw[me b hb]at e;exact (I.hok b o e).stay (λ_ _ _ q=>q) (λb q=>kZ _ _ q) λb u q=>kZ _ _ q
 have e0:Env0 X.prog X.w X.K X.mg X.base X.A X.stack s H2:=by
  have z:=I.env0;refine⟨z.frames,z.mod,λb o e=>⟨(z.bs b o e).1,?_⟩,z.bsz,z.funs,λb hb=>?_,oA,z.bare,λx hx p e=>?_⟩
  ·rw[me b λhc=>absurd (bw (aG e) (cw I.ok.bsz (rZ b hc))) (dt _)];exact (z.bs b o e).2
  ·rw[me b λhc=>?_]
   ·exact z.frf b hb
   ·rcases az.mp (I.stkSub b hb) with e|e
    ·obtain⟨y,hy,_⟩:=nX b hc;exact I.cne y b hy e
    ·obtain⟨_,o,ho,_⟩:=I.ok.funs.mem e;exact absurd (bw (aG ho) (rZ b hc)) (dt _)
  ·obtain⟨qs,t',e1,e2⟩:=z.tabs x hx p e;exact⟨qs,t',kZ _ _ e1,e2⟩
 have pB:=q H2 C (λx y c z1 z2=>I.ok.inj x y c (jf _ (bZ z1)).1 (jf _ (bZ z2)).1) kZ (a5U I (λy c hy ob z=>pS c (uR y c hy) ob z) tD DN) (λy c hy=>by
  obtain⟨ob,v,z1,z2⟩:=mj c (uR y c hy);exact⟨ob,v,pS c (uR y c hy) ob z1,z2⟩) J2 me ot
 have r2:Vals vs (us++[]):=by rw[bE];exact r
 have hl:(us++[]).length=ps.length:=by rw[←r2.length];exact F.len _ _ _ _ pB
 refine uB (fK (F.run X.A X.stack s H2 ⟨us,[]⟩ (us++[]) vs _ E0 hr e0 (hb s us I.kIn hl) r2 pB) λr s' hq=>?_);cases r with
 |error e=>exact cK hq
 |ok fl=>
  cases fl with
  |next=>exact cK hq
  |brk=>exact cK hq
  |cont=>exact cK hq
  |ret u=>
   obtain⟨v,H',os,bare,un,pF,rv,qv⟩:=(show CE X.stack X.prog X.w H2 s _ u s' from hq);have fz:∀c∈C,∃ob,s.heap.get? c=el ob∧H' c=el (.frz ob (.own c))∧s'.heap.get? c=el ob:=λc hc=>by
    obtain⟨ob,v,z1,_⟩:=mj c hc;have z2:=un.frzs c ob _ (pS c hc ob z1);exact⟨ob,z1,z2,(pF c _ z2).1⟩
   have J':Junk H' C:=λa hm u e=>by
    obtain⟨ob,_,z,_⟩:=fz a hm;rw[z]at e;cases e
    exact⟨ob,rfl⟩
   have n2:∀b,H b=p4→b∉C→H2 b=p4:=λb n hb=>by rw[me b hb];exact n
   have oC:∀b u,H b=el u→b∉C:=λb u e z=>by rw[ot b z]at e;cases e
   have BH:Un (frs X.stack) [] H (VS.cut H' C) s.heap s'.heap:=by
    refine⟨λb o e n hb hx=>?_,λb o e n hb hx=>?_,λb o e n hx=>?_,un.there,λb xs e=>?_,λb o u e=>?_,λb ps e=>?_⟩
    ·by_cases hc:b∈C
     ·obtain⟨ob,z1,_,z3⟩:=fz b hc;rw[e]at z1;cases z1
      exact z3
     ·exact un.keep b o e (n2 b n hc) hb hx
    ·by_cases hc:b∈C
     ·obtain⟨ob,z1,_,z3⟩:=fz b hc;rw[e]at z1;cases z1
      exact⟨o.slots,z3⟩
     ·exact un.slot b o e (n2 b n hc) hb hx
    ·by_cases hc:b∈C
     ·exact T5 hc
     ·exact y9 (un.free b o e (n2 b n hc) hx)
    ·exact j5 (oC b _ e) (un.tups b xs (kZ _ _ e))
    ·exact j5 (oC b _ e) (un.frzs b o u (kZ _ _ e))
    ·obtain⟨more,z⟩:=un.tbls b ps (kZ _ _ e);exact⟨more,j5 (oC b _ e) z⟩
   exact⟨v,VS.cut H' C,I.call' os BH (a5S pF J') bare (λb z=>absurd z (by simp)),rv,qv J'⟩
end
def N3(scope:fZ)(env:n_):List (bC×au):=scope.names.foldl (λcs p=>if p.2==.free then (match env.cells.lookup p.1 with|some c=>(p.1,c)::cs|none=>cs) else cs) []
def a7u:∀p∈N3 scope env,env.cells.lookup p.1=el p.2:=by
 have key:∀(l:List (bC×iP)) (cs:List (bC×au)),(∀p∈cs,env.cells.lookup p.1=el p.2)→∀p∈l.foldl (λcs p=>if p.2==.free then (match env.cells.lookup p.1 with|some c=>(p.1,c)::cs|none=>cs) else cs) cs,env.cells.lookup p.1=el p.2:=by
  intro l
  induction l with
  |nil=>intro cs h;exact h
  |cons a l ih=>
   intro cs h;rw[Gj];refine ih _ λp hp=>?_
   split at hp
   ·split at hp
    ·rename_i c hc
     rcases az.mp hp with e|e
     ·rw[e];exact hc
     ·exact h p e
    ·exact h p hp
   ·exact h p hp
 exact key _ _ λp hp=>(nomatch hp)
def b4D{X:Cx}(nM:∀x,X.fn x=true:=by exact λ_=>rfl):b9j X (N3 scope X.env):=λp hp=>⟨a7u p hp,nM _⟩
section
variable {X:Cx}{M:List Md}{e0:Expr}{es:List Expr}{f:EvA}{u uf:Ty}{x:bC}{p pos jI:ff}{params:lH}{body:Expr}{scope:fZ}{ys:List bC}{js:List Nat}
def b4E(hx:y∈K0)(hP:B0 X.K y=el P)(hc:X.env.code=.ref c)(hd:gq X.base c P)(hq:X.env.qual++"<lambda>"=S7 y)
  (tw:oI scope X.env=pure (N3 scope X.env):=by rfl) (tu:defaultsOf params X.env=([],[]):=by rfl) (hs:aw [.Lambda params body scope jI] X.env=(false,cy (.Lambda params body scope jI) X.env)::aw [] X.env:=by rfl) :
  PAL X M [.Lambda params body scope jI] g8 λH v=>∃fa,v=.ref fa∧LamO (S7 y) params body scope (N3 scope X.env) H fa:=by
 refine⟨_,l5 (b0c hx hP hc hd hq tw tu) p0 hs,λρ σ H P F ds Q S hf q=>?_⟩;cases hf
 exact λfa H' e L=>q [] (.ref fa) H' e denAll_nil ⟨fa,rfl,L⟩
def b7D(M:List Md):List Nat→Prop
 |[]=>True
 |j::js=>(∃w,M[j]?=el (.own w))∧b7D M js
theorem a8x{K:ag}{ρ:List D}{σ:L2.St}{H P:Hp}{F:List au}(S:StE K M ρ σ H P F):∀{js:List Nat},b7D M js→∃kX,b4C σ js kX∧DenAll K H kX (js.map λj=>ρ.getD j .none)
 |[],_=>⟨[],rfl,denAll_nil⟩
 |j::js,h=>by
  obtain⟨⟨w,hw⟩,h2⟩:=h;obtain⟨v,fp,e,o,_⟩:=S.get hw;obtain⟨kX,q1,q2⟩:=a8x S h2;exact⟨v::kX,⟨v,kX,rfl,e,q1⟩,denAll_cons (o.den w) q2⟩
noncomputable def b4F(m:(List D→Option D)→List D→Option D)(us:List Ty)(js:List Nat)(fb:EvE)(f:EvA):EvE:=λρ=>(f ρ).bind (m (fnE us (js.map λj=>ρ.getD j .none) fb))
end
def b2j{P:br}{w:bL}{K:ag}{mg:bC→Option ah}{base:bN}{x:bC}{st:gM}{f:au}{fd:dC}{N ps:List bC}{k n:Nat}{us:List Ty}{u:Ty}{g:EvS}{M':List Md}(F:Fun K x x st f fd)(S:FnScope N ps (i8 st))(mO:us.length=ps.length)(hn:N.length=ps.length+n)
  (hb:∀(A:bD) (outer:List n_) (s:ai) (H:Hp) (E:XK),Room k (A.deeper (iY x (i8 st) s.heap.objs.size f fd.code))→PSsX (a0a CX0 P w K mg base N x (i8 st) f fd.code A outer s H E).nox u [] (us.map .own++aO n .dead) (v4 st) g M') :
  FnOk P w K mg base CX0 (k+1) f fd ps (spD K ps.length (fnD us n g) u):=by
 obtain⟨oc,od,kV,doc,pm,an,gd,ct,ou,rfl,lk,iJ⟩:=F.ex;refine b5s lk iJ S (λvs H Q E ⟨ds,d,hl,_⟩=>hl) λA outer s H vs Q E hr ⟨ds,d,hl,hd,hm,q⟩=>?_
 obtain⟨t,p,r⟩:=(hb A outer s H E hr).out;refine⟨t,p.nox,?_⟩;unfold fnD at hm;by_cases ha:argsOk us ds=true
 ·rw[aB ha]at hm;obtain⟨o,h1,h2⟩:=bnd hm;cases o with
  |rt d'=>
   have jh:el d'=el d:=h2;cases jh
   have e:L2.start N vs=vs.map el++aO n p4:=by
    unfold L2.start;rw[show N.length-vs.length=n by lia]
   rw[e];refine r _ (ds++aO n jz) _ H H [] (.rt d) ⟨⟨[],Q3 ha hd n,bA,λa ha=>(nomatch ha)⟩,λa ha=>(nomatch ha),by rw[J0];exact Same.refl H⟩ h1 ?_;exact λv H' fp o nd fr e=>q v H' fp e o nd fr
  |_=>cases h2
 ·rw[aI ha]at hm;cases hm
def b2k{K:ag}{base:bN}{fd:dC}(e:(B0 K x).isSome=true)(X:K.In base)(G:base.Ns bP mg)(a:gB K bP x=el (el (.ref f)))(l:K.lookup f=el ⟨oc,od,.func fd,sl⟩) :
  ∃c p,fd.code=.ref c∧B0 K x=el p∧gq base c p:=by
 obtain⟨p,hp⟩:=gQ.mp e;obtain⟨f',Fx,Fw,AX,zA,c,h1,h2,h3,h4⟩:=a3G hp X G;have h5:=jQ X G a;rw[h1]at h5;cases h5
 rw[l]at h2;cases h2
 exact⟨c,p,h3,hp,h4⟩
end VS
namespace VS
open PySem PySem.Spec L2
def b4G:FnOk P w K mg base CX0 k f fd ps (spD K n (λ_=>p4) u):=
 ⟨λ_ _ _ _ ⟨_,_,_,_,hm,_⟩=>(nomatch hm),λ_ _ _ _ _ _ _ _ _ _ _ _ _ ⟨_,_,_,_,hm,_⟩=>(nomatch hm)⟩
end VS
namespace VS
open PySem
abbrev Up(xs:List Nat):Prop:=xs.Pairwise (· < ·)
def AtB(xs:List Nat)(j p:Nat):Prop:=p≤xs.length∧(∀i (h:i<xs.length),i<p→xs[i]<j)∧∀i (h:i<xs.length),p≤i→¬ xs[i]<j
def a3R(h:Up xs)(hk:k<xs.length)(hi:i<k):xs[i]<xs[k]:=qG.mp h i k (by lia) hk hi
def AtB.uniq(a:AtB xs j p)(b:AtB xs j q):p=q:=by
 rcases Nat.lt_trichotomy p q with c|c|c
 ·exact absurd (b.2.1 p (by have:=b.1;lia) c) (a.2.2 p (by have:=b.1;lia) (aD _))
 ·exact c
 ·exact absurd (a.2.1 q (by have:=a.1;lia) c) (b.2.2 q (by have:=a.1;lia) (aD _))
def b2l{xs:Array Nat}(hs:Up xs.toList):∀(f lo hi:Nat),lo≤hi→hi≤xs.size→hi≤lo+f→(∀i (h:i<xs.toList.length),i<lo→xs.toList[i]<j)→(∀i (h:i<xs.toList.length),hi≤i→¬ xs.toList[i]<j)→
  AtB xs.toList j (pX xs j f lo hi):=by
 intro f
 induction f with
 |zero=>
  intro lo hi h1 h2 h3 a b;have e:lo=hi:=by lia
  subst e;rw[pX];exact⟨by simpa using h2,a,b⟩
 |succ f ih=>
  intro lo hi h1 h2 h3 a b;rw[pX];by_cases c:lo<hi
  ·rw[aB c];have hm:(lo+hi) / 2<xs.size:=by lia
   have ud:(lo+hi) / 2<xs.toList.length:=by simpa using hm
   have eg:xs.getD ((lo+hi) / 2) j=xs.toList[(lo+hi) / 2]:=by simp[zq,hm]
   simp only[eg];by_cases d:xs.toList[(lo+hi) / 2]<j
   ·rw[aB d];refine ih _ _ (by lia) h2 (by lia) (λi jJ hl=>?_) b;rcases gC i ((lo+hi) / 2) with z|z
    ·exact fE (a3R hs ud z) d
    ·have:i=(lo+hi) / 2:=by lia
     subst this;exact d
   ·rw[aI d];refine ih _ _ (by lia) (by lia) (by lia) a (λi jJ hl=>?_);rcases gC ((lo+hi) / 2) i with z|z
    ·have:=a3R hs jJ z;lia
    ·have:i=(lo+hi) / 2:=by lia
     subst this;exact d
  ·rw[aI c];have e:lo=hi:=by lia
   subst e;exact⟨by simpa using h2,a,b⟩
def below_at{xs:Array Nat}(hs:Up xs.toList)(j:Nat):AtB xs.toList j (eM xs j):=by
 unfold eM;exact b2l hs _ _ _ (bI _) (aD _) (by lia) (λi _ h=>by lia) (λi h h'=>by simp at h;lia)
def a7v{xs:Array Nat}(hs:Up xs.toList):eM xs 0=0:=(below_at hs 0).uniq ⟨bI _,λ_ _ h=>by lia,λ_ _ _=>by lia⟩
def a7w{xs:Array Nat}(hs:Up xs.toList)(hi:i<xs.toList.length):eM xs (xs.toList[i]+1)=i+1:=by
 refine (below_at hs _).uniq ⟨hi,λk hk h=>?_,λk hk h=>?_⟩
 ·rcases gC k i with z|z
  ·have:=a3R hs hi z;lia
  ·have:k=i:=by lia
   subst this;lia
 ·have:=a3R hs hk (show i<k by lia);lia
def b7E(hs:Up xs)(h:AtB xs j p)(hj:j∉xs):Up (xs.take p++j::xs.drop p):=by
 have h1:∀x∈xs.take p,x<j:=λx hx=>by
  obtain⟨i,hi,rfl⟩:=gu.mp hx;rw[eh]at hi;rw[Br];exact h.2.1 i (by lia) (by lia)
 have h2:∀x∈xs.drop p,j<x:=λx hx=>by
  obtain⟨i,hi,rfl⟩:=gu.mp hx;rw[Fi]at hi;have z:=h.2.2 (p+i) (by lia) (by lia);rw[List.getElem_drop];have:xs[p+i]'(by lia)≠j:=λe=>hj (e▸cG _)
  lia
 rw[Up,lE,d_];refine⟨hs.take,⟨h2,hs.drop⟩,λa ha b hb=>?_⟩;rcases az.mp hb with rfl|hb
 ·exact h1 a ha
 ·exact fE (h1 a ha) (h2 b hb)
def a5V{t:gn}(hs:Up t.place.toList)(h:∀i,t.slot j≠.live i):j∉t.place.toList:=λhj=>by
 obtain⟨i,hi,e⟩:=gu.mp hj;have hb:eM t.place j=i:=by
  refine (below_at hs j).uniq ⟨dE hi,λk hk z=>?_,λk hk z=>?_⟩
  ·have:=a3R hs hi z;lia
  ·rcases gC i k with y|y
   ·have:=a3R hs hk y;lia
   ·have:k=i:=by lia
    subst this;lia
 apply h i;have jJ:i<t.place.size:=by simpa using hi
 have:t.place[i]?=el j:=by rw[bF jJ,←e];simp
 simp only[gn.slot,hb,this,fL,gT]
def b2m{t:gn}:∀(f:Nat) (p:gn.Probe) (j:Nat) (d:Option Nat),(∀x,p.dummy=el x→t.slot x=.dummy)→gn.probe.go t hs h f p=el (.empty j d)→t.slot j=.empty∧∀x,d=el x→t.slot x=.dummy:=by
 intro f
 induction f with
 |zero=>intro p j d _ e;cases e
 |succ f ih=>
  intro p j d hd e;rw[gn.probe.go]at e;have Bo:∀q:gn.Probe,(t.advance q).dummy=q.dummy:=λq=>by unfold gn.advance;split<;>rfl
  split at e
  ·rename_i kW
   cases e
   exact⟨kW,hd⟩
  ·rename_i kW
   exact ih _ j d (λx hx=>by rw[Bo]at hx;cases hx;exact kW) e
  ·split at e
   ·cases e
   ·exact ih _ j d (λx hx=>by rw[Bo]at hx;exact hd x hx) e
def b2n{t:gn}(hs:Up t.place.toList)(e:t.freeSlot h=el (j,b)):j∉t.place.toList:=by
 unfold gn.freeSlot at e
 split at e
 ·rename_i j' d hp
  unfold gn.probe at hp;obtain⟨h1,h2⟩:=b2m _ _ _ _ (λx hx=>by cases hx) hp;simp only[ng,Prod.mk.injEq]at e;obtain⟨rfl,_⟩:=e;cases d with
  |none=>exact a5V hs λi=>by rw[show t.slot ((p4:Option Nat).getD j')=.empty from h1];simp
  |some x=>exact a5V hs λi=>by rw[show t.slot ((el x:Option Nat).getD j')=.dummy from h2 x rfl];simp
 ·cases e
def b2o(n:Nat):Up (Array.range n).toList:=by rw[Array.toList_range];exact tP
def Q7(t:gn)(n:Nat):Up (t.standIn n).place.toList:=b2o n
def b0d{t:gn}(hs:Up t.place.toList)(es:Array (Int×ah))(h:Int)(x:ah):Up (layNew t es h x).2.1.place.toList∧(layNew t es h x).2.1.led=t.led:=by
 unfold layNew
 split
 ·rename_i slot wd e
  have hp:Up (t.put slot).1.place.toList:=by
   show Up (gn.insertAt t.place (eM t.place slot) slot).toList;rw[gn.toList_insertAt];exact b7E hs (below_at hs slot) (b2n hs e)
  have hl:(t.put slot).1.led=t.led:=rfl
  dsimp only
  unfold gn.orStandIn
  split
  ·exact⟨hp,hl⟩
  ·exact⟨Q7 _ _,hl⟩
 ·exact⟨Q7 _ _,rfl⟩
def a4W(f:Nat→Option Nat):Up (((aX n).filterMap λj=>(f j).map (j,·)).map (·.1)):=by
 rw[Up,nk,List.pairwise_filterMap];refine tP.imp λ{a b} oV x hx y hy=>?_
 obtain⟨_,_,rfl⟩:=cS.mp hx;obtain⟨_,_,rfl⟩:=cS.mp hy;exact oV
def b2p(t:gn)(es:Array (Int×ah))(n:Nat):(Up t.place.toList→Up (mL t es n).2.1.place.toList)∧(mL t es n).2.1.led=t.led:=by
 unfold mL
 split
 ·rename_i t' order e
  unfold gn.relaid gn.laid at e;obtain⟨ow,_,e2⟩:=sy.mp e;simp only[Option.pure_def,ng,Prod.mk.injEq]at e2;obtain⟨rfl,_⟩:=e2
  dsimp only
  split
  ·refine⟨λ_=>?_,rfl⟩;rw[List.toList_toArray];exact a4W _
  ·exact⟨λ_=>Q7 _ _,rfl⟩
 ·exact⟨λ_=>Q7 _ _,rfl⟩
end VS
namespace VS
open PySem PySem.Spec L2
open PyProof.Rows (step_dedup firstMet firstMet_zero firstMet_succ firstMet_length_le step_length)
def iOf:ah→Int
 |.int n _=>n
 |_=>0
def EI(l:List (Int×ah))(ms:List Int):Prop:=(∀e∈l,∃n t,e.2=.int n t∧e.1=jK n)∧(l.map λe=>iOf e.2).Perm ms
def B7(w:bL)(o:fD)(es:Array (Int×ah))(ep:Nat)(t:gn)(P:Prop):Prop:=
 o.ExactSet∧o.data=.set es ep t∧t.fits es.size=true∧Up t.place.toList∧t.led=!w.params.followText "set-order"∧es.size<je∧P
abbrev a2D(w:bL)(o:fD)(es:Array (Int×ah))(ep:Nat)(t:gn)(ms:List Int):Prop:=B7 w o es ep t (EI es.toList ms)
def SetI(w:bL)(h:bN)(a:au)(ms:List Int):Prop:=∃o es ep t,h.get? a=el o∧a2D w o es ep t ms
def SetI.at{h h':bN}(x:SetI w h a ms)(k:∀o,h.get? a=el o→h'.get? a=el o):SetI w h' a ms:=let⟨o,es,ep,t,e,r⟩:=x;⟨o,es,ep,t,k _ e,r⟩
def EI.perm{l l':List (Int×ah)}(h:EI l ms)(p:l'.Perm l):EI l' ms:=⟨λe he=>h.1 e (p.mem_iff.mp he),(p.map _).trans h.2⟩
def EI.push{l l':List (Int×ah)}(h:EI l ms)(p:l'.Perm (l++[(jK n,.int n tk)])):EI l' (ms++[n]):=by
 refine EI.perm (l:=l++[(jK n,.int n tk)]) ⟨λe he=>?_,?_⟩ p
 ·rcases aF.mp he with z|z
  ·exact h.1 e z
  ·rw[ao]at z;subst z;exact⟨n,tk,rfl,rfl⟩
 ·rw[aT];exact h.2.append (et _)
def EI.len(h:EI l ms):l.length=ms.length:=by have:=h.2.length_eq;simpa using this
section
variable {prog:br}{w:bL}{A:bD}{E:ah→ai→Prop}{sh:ai}
def EI.elems(h:EI l ms):ElemsOf (dh prog w) l:=λe he=>by
 obtain⟨n,t,e1,e2⟩:=h.1 e he;rw[e1];exact⟨⟨n,ox _ _ _ _,e2⟩,rfl⟩
def a3S{es eX:Array (Int×ah)}{t t':gn}(ho:sh.heap.get? a=el o)(r:a2D w o es ep t ms)(f:t'.fits eX.size=true)(u:Up t'.place.toList)(l:t'.led=t.led)(b:eX.size<je)(e:EI eX.toList Cm) :
  (sh.heap.update a (v_ eX t')).get? a=el {o with data:=.set eX (ep+1) t'}∧a2D w {o with data:=.set eX (ep+1) t'} eX (ep+1) t' Cm:=by
 refine⟨?_,r.1,rfl,f,u,l.trans r.2.2.2.2.1,b,e⟩;have z:=bT (v_ eX t') ho (by rw[putSet_of eX t' r.2.1];rfl)
 rwa[putSet_of eX t' r.2.1]at z
def add_int(hS:SetI w sh.heap a ms)(hr:ms.length+1<je)
  (q:∀b h',cE a sh.heap h'→SetI w h' a (step_dedup ms n)→Q b {sh with heap:=h'}):aC (aV prog w) A (setAddHashed a (.int n tk) (jK n)) Q E sh:=by
 obtain⟨o,es,ep,t,ho,r⟩:=hS;obtain⟨_,hd,hf,hu,hl,hb,he⟩:=id r;have Az:ElemsOf (dh prog w) es.toList:=he.elems;have hlen:es.size=ms.length:=by have:=he.len;simpa using this
 unfold setAddHashed setAddHashedIn;refine bJ (ab (gE ho hd hf ?_))
 dsimp only
 rw[byScan_of (knd:=dh prog w) (x:=.int n tk) rfl hb Az,aB rfl];unfold setAddByScan;refine ab (ab (dW (ab (wpAny_setScan_of (knd:=dh prog w) (k:=n) (ox _ _ _ _) ho hd hf Az ?_))));cases hj:es.toList.findIdx? λe=>(dh prog w).is n e.2 with
 |some j=>
  dsimp only
  obtain⟨Ar,sW,_⟩:=List.findIdx?_eq_some_iff_getElem.mp hj;have jW:ms.any (· == n)=true:=by
   obtain⟨n',t',e1,_⟩:=he.1 _ (cG Ar);rw[e1]at sW;have hn:n'=n:=(dh prog w).inj _ _ _ (ox prog w n' t') sW;refine cZ.mpr ⟨n,he.2.mem_iff.mp (aY.mpr ⟨_,cG Ar,?_⟩),fL n⟩;rw[e1];exact hn
  refine ae (ae ?_);have z:=q false sh.heap (cE.refl a _) (by rw[step_dedup,aB jW];exact⟨o,es,ep,t,ho,r⟩);exact z
 |none=>
  dsimp only
  have yg:¬ ms.any (· == n)=true:=λc=>by
   obtain⟨x,h1,h2⟩:=cZ.mp c;obtain⟨e,g1,g2⟩:=aY.mp (he.2.mem_iff.mpr h1);obtain⟨n',t',e1,_⟩:=he.1 _ g1;have z:=List.findIdx?_eq_none_iff.mp hj e g1;rw[e1]at z g2;have:n'=n:=(show n'=x from g2).trans (ku.mp h2);subst this;rw[ox]at z;cases z
  have CS:step_dedup ms n=ms++[n]:=by rw[step_dedup,aI yg]
  rw[CS]at q;have p1:=layNew_perm t es (jK n) (.int n tk);have f1:=layNew_fits t es (jK n) (.int n tk);obtain⟨u1,l1⟩:=b0d hu es (jK n) (.int n tk);generalize layNew t es (jK n) (.int n tk)=L at p1 f1 u1 l1 ⊢;obtain⟨j_,t1,wd,gv⟩:=L
  dsimp only at p1 f1 u1 l1 ⊢
  rw[Bw]at p1;have e1:EI j_.toList (ms++[n]):=he.push p1;have z1:j_.size=ms.length+1:=by have:=e1.len;simpa using this
  have b1:j_.size<je:=by lia
  have gw:∀(b:Bool) (s1:ai) (Q':Unit→ai→Prop),Q' () s1→aC (aV prog w) A (match b with|true=>rule "set.scan.the-table-gave-way" | false=>pure ()) Q' E s1:=λb s1 Q' hq=>by
   cases b<;>first|exact ae hq|exact dW hq
  refine ab (gw _ _ _ ?_);have tail:∀(g:Bool→Sem Unit),(∀(b:Bool) (s1:ai) (Q':Unit→ai→Prop),Q' () s1→aC (aV prog w) A (g b) Q' E s1)→∀t2:gn,t2.fits j_.size=true→Up t2.place.toList→t2.led=t.led→∀R:Option Bool→ai→Prop,
    (∀h',cE a sh.heap h'→SetI w h' a (ms++[n])→R (el true) {sh with heap:=h'})→
    aC (aV prog w) A (storeSet a j_ t2 >>= λ_=>if (!wd&&t2.tooFull)=true then (g (mL t2 j_ (gN j_.size)).2.2 >>= λ_=>storeSet a (mL t2 j_ (gN j_.size)).1 (mL t2 j_ (gN j_.size)).2.1 >>= λ_=>pure (el true)) else pure (el true)) R E sh:=by
   intro g hg t2 f2 u2 l2 R hR;refine ab (wpAny_storeSet_of ho hd ?_ (kI b1));obtain⟨o2,r2⟩:=a3S (sh:=sh) ho r f2 u2 l2 b1 e1;have sb:=bQ sh.heap a (v_ j_ t2)
   split
   ·have p3:=relayAll_perm t2 j_ (gN j_.size);have f3:=relayAll_fits t2 j_ (gN j_.size);obtain⟨u3,l3⟩:=b2p t2 j_ (gN j_.size);generalize mL t2 j_ (gN j_.size)=R3 at p3 f3 u3 l3 ⊢;obtain⟨AZ,t3,g3⟩:=R3
    dsimp only at p3 f3 u3 l3 ⊢
    have e3:EI AZ.toList (ms++[n]):=e1.perm p3;have b3:AZ.size<je:=by have:=e3.len;rw[bg,uq,bW]at this;lia
    refine ab (hg _ _ _ (ab (wpAny_storeSet_of o2 rfl ?_ (kI b3))));obtain⟨o4,r4⟩:=a3S (sh:={sh with heap:=sh.heap.update a (v_ j_ t2)}) o2 r2 f3 (u3 u2) l3 b3 e3;exact ae (hR _ (sb.trans (bQ _ a _)) ⟨_,_,_,_,o4,r4⟩)
   ·exact ae (hR _ sb ⟨_,_,_,_,o2,r2⟩)
  split
  ·refine ab ?_;rw[hashByValue_scannable 8 (x:=gA n tk) rfl];refine ae ?_;refine tail _ ?_ _ ?_ ?_ ?_ _ λh' sb kH=>ae (q true h' sb kH)
   ·intro b s1 Q' hq;cases b<;>first|exact ae hq|exact dW hq
   ·exact f1
   ·exact u1
   ·exact l1
  ·refine ab (ae ?_);rw[aB rfl];refine tail _ ?_ _ f1 u1 l1 _ λh' sb kH=>ae (q true h' sb kH)
   intro b s1 Q' hq;cases b<;>first|exact ae hq|exact dW hq
end
end VS
namespace VS
open PySem PySem.Spec L2
open PyProof.Rows (firstMet firstMet_zero firstMet_succ firstMet_length_le IntsAre)
section
variable {prog:br}{w:bL}{A:bD}{E:ah→ai→Prop}{sh:ai}{R:vY→ai→Prop}{I:au}{fp wr:List au}{G:Array GenState→Array GenState→Prop}{n:Nat}{P:Nat→ah→Prop}{St:Nat→ai→Prop}
def b2q(Wk:WalksS prog w A.in1 I fp wr G n P St)(z:au)(hz:z∉fp)(val:Nat→Int)(sL:∀i v,P i v→∃t,v=.int (val i) t)(hb:n+1<je) :
  ∀(k i:Nat) (s:ai),n-i=k→i≤n→St i s→SetI w s.heap z (firstMet val i)→(∀s',Moved (z::wr) G s s'→SetI w s'.heap z (firstMet val n)→R (.ok (.ret .none)) s')→
   gF (aV prog w) A (.builtin "set.update.loop" ⟨[.ref z,.ref I],[]⟩) R s:=by
 have hw:z∉wr:=λh=>hz (Wk.sub _ h)
 have up:∀b∈wr,b∈z::wr:=λb h=>aq _ h
 intro k
 induction k with
 |zero=>
  intro i s hk hi st hS hR;obtain rfl:i=n:=by lia
  refine dP (by exact lU) ?_;rw[cW (by exact gK) _];show aC _ A.in1 (fP (aW I) >>= _) _ _ s;refine ab (Wk.done s _ _ st λs' m=>(show aC _ A.in1 (ret bz) _ _ s' from ae (hR s' (m.mono up) (hS.at λo e=>m.heap z o hw e))))
 |succ k ih=>
  intro i s hk hi st hS hR;have lt:i<n:=by lia
  refine dP (by exact lU) ?_;rw[cW (by exact gK) _];show aC _ A.in1 (fP (aW I) >>= _) _ _ s;refine ab (Wk.item i s _ _ lt st λv s1 hP BM m=>?_);obtain⟨t,rfl⟩:=sL i v hP;have vH:SetI w s1.heap z (firstMet val i):=hS.at λo e=>m.heap z o hw e
  show aC _ A.in1 (nt [gA (val i) t] (setAdd z (.int (val i) t)) >>= λ_=>_) _ _ s1;refine ab (bJ ?_);unfold setAdd;refine bJ (ab ((dh prog w).pyHash (k:=val i) (by exact ox _ _ _ _) ?_));have rm:(firstMet val i).length+1<je:=by have:=firstMet_length_le val i;lia
  refine add_int (sh:={s1 with toks:=s1.toks+1}) (ms:=firstMet val i) vH rm λb h' sb vG=>?_
  rw[←firstMet_succ]at vG;refine ae ⟨fm (by exact gK) _,ih (i+1) _ (by lia) lt (Wk.frame _ s1 _ _ BM (eU _) λc hc o e=>?_) vG λs2 m2 yV=>?_⟩
  ·rw[sb.2 c (λx:c=z=>hz (x▸hc))];exact e
  ·refine hR s2 (Moved.trans Wk.gtrans ((m.mono up).then_heap (eU _) λc o hc e=>?_) m2) yV;rw[sb.2 c (λx:c=z=>hc (x▸aj))];exact e
def a3p(w:bL):fD:={cls:=.type "set",dict:=p4,data:=.set #[] 0 (.fresh 0 0 (!w.params.followText "set-order"))}
def b2r(w:bL):a2D w (a3p w) #[] 0 (.fresh 0 0 (!w.params.followText "set-order")) []:=⟨⟨rfl,rfl,rfl⟩,rfl,rfl,ik,rfl,by decide,λe he=>by simp at he,et _⟩
def b4H(a:ah)(h:Q (.ref sh.heap.objs.size) {sh with heap:=sh.heap.push (a3p w)}) :
  gF (aV prog w) A (.call (.builtin "set.__new__") ⟨[.type "set",a],[]⟩) (wants Q E) sh:=by
 refine codeAny_of_tree (show aC _ A.in1 (checkBuiltinCall "set.__new__" ⟨[.type "set",a],[]⟩ >>= λ_=>again (.builtin "set.__new__" ⟨[.type "set",a],[]⟩)) _ _ sh from ?_);refine ab (rK (by exact F.newCall_set_1 a) (ae ⟨fm (by exact F.plain_set_new) _,dP (by exact F.entry_set_new) ?_⟩));rw[cW (by exact F.plain_set_new) _];unfold Builtin.«set.__new__»;unfold Builtin.Frozenset.newClass;have jf:=@sub_set_self;obtain⟨hp,g,d,tk,os⟩:=sh
 dsimp only
 wp_walk
 refine qJ (ae (by
  dsimp only
  simp only[newObj];exact ab (wpAny_alloc (ae (ae h)))))
end
end VS
namespace VS
open PySem PySem.Spec L2
open PyProof.Rows (firstMet IntsAre)
section
variable {prog:br}{w:bL}{A:bD}{E:ah→ai→Prop}{sh:ai}
def b0e(hh:A.handled=p4)(hl:sh.heap.IsList l items)(hi:IntsAre items.toList ns)(hb:items.size+1<je)
  (h:∀(h':bN) (tk:Nat),SetI w h' sh.heap.objs.size (firstMet (λi=>ns.getD i 0) items.size)→(∀b o,sh.heap.get? b=el o→h'.get? b=el o)→Q (.ref sh.heap.objs.size) {sh with heap:=h',toks:=tk}) :
  aC (aV prog w) A (call (.type "set") [.ref l]) Q E sh:=by
 obtain⟨cl,tl,Di⟩:=(by exact hU.mro);have g1:=(by exact hU.made);have g2:=(by exact hU.sub);refine uB (codeAny_of_tree (show aC _ _ (callAny (.type "set") _) _ _ _ from ?_));refine ae ⟨Code.quiet_builtin _ (by decide +kernel),dP (by exact F.entry_type_call) ?_⟩;rw[bD.under_plain (by exact weight_type_call_type "set" [.ref l] []) rfl];have g3:=(by exact hU.notType);have g4:=(by exact hU.canCreate);have g5:=(by exact F.typeCall_set_1 (.ref l))
 repeat (any_goals first|assumption|wp_step)
 refine fK (b4H (.ref l) (E:=E) (Q:=λv s1=>v=.ref sh.heap.objs.size∧s1={sh with heap:=sh.heap.push (a3p w)}) ⟨rfl,rfl⟩) λr s1 hr=>?_
 cases r with
 |error e=>exact hr
 |ok fl=>
  cases fl with
  |ret v=>
   obtain⟨rfl,rfl⟩:=hr;have hS:(sh.heap.push (a3p w)).get? sh.heap.objs.size=el (a3p w):=aE _ rfl;have hT:kS {sh with heap:=sh.heap.push (a3p w)} (.ref sh.heap.objs.size) "set":=⟨_,hS,rfl⟩;have g6:=(by exact hU.init.lookup);have g7:=(by exact hU.init.bind (.ref sh.heap.objs.size))
   repeat (any_goals first|assumption|wp_step)
   refine fK (codeAny_call_builtin (R:=wants (λr s2=>r=.none∧∃h' tk,s2={sh with heap:=h',toks:=tk}∧SetI w h' sh.heap.objs.size (firstMet (λi=>ns.getD i 0) items.size)∧(∀b o,sh.heap.get? b=el o→h'.get? b=el o)) E) (by exact hU.init.plain) (by exact F.entry_set_init) (check_set_init_1 hT ?_)) λr2 s2 xZ=>?_
   ·obtain⟨ol,Ak,tw,nl,tm⟩:=hl;obtain⟨oc,od,Fv,os⟩:=ol;simp only at tw tm;subst tw;subst tm;have yd:(sh.heap.push (a3p w)).get? l=el {cls:=.type "list",dict:=od,data:=.seq items nl,slots:=os}:=af _ Ak;have k1:=(by exact F.sub_list_set);have k2:=(by exact F.sub_list_frozenset);have k3:(dD "list" == dD "dict")=false:=by decide +kernel
    have qu:(sh.heap.push (a3p w)).IsList l items:=⟨_,yd,rfl,nl,rfl⟩;unfold Builtin.«set.__init__» noKeywords;unfold Builtin.Frozenset.updateFrom;generalize Ei:qO=PI
    wp_walk
    subst Ei;refine oY qu (ab (mE ?_));have lt:l<sh.heap.objs.size:=aG Ak;have Dz:A.in1.in1.in1.handled=p4:=by simp[hh]
    have ne:l≠(sh.heap.push (a3p w)).objs.size:=by rw[cL];exact a_ (f_ lt)
    have nf:sh.heap.objs.size∉[(sh.heap.push (a3p w)).objs.size,l]:=by
     rw[cL];simp only[az,cF,or_false,not_or];exact⟨a_ (kh _),dQ lt⟩
    have hv:∀(i:Nat) (v:ah),items[i]?=el v→∃t,v=.int ((λi=>ns.getD i 0) i) t:=λi v e=>hi.int_at i v (by rw[bR];exact e)
    refine b2q ((Walks.list Dz _ l ne items).toS) sh.heap.objs.size nf (λi=>ns.getD i 0) hv hb (items.size-0) 0 _ rfl (bI _) ⟨⟨_,aE _ rfl,rfl,rfl⟩,qu.push _⟩ ⟨_,_,_,_,af _ hS,b2r w⟩ λs' m kH=>?_
    obtain⟨h',g',d',wg,xy⟩:=s';have e1:g'=sh.gens:=m.gens;have e2:d'=sh.drawn:=m.drawn;have e3:xy=sh.os:=m.os;subst e1 e2 e3;show aC _ _ _ _ _ _;refine ae (show aC _ _ (ret bz) _ _ _ from ae ⟨rfl,h',wg,rfl,kH,λb o e=>?_⟩);have lb:=aG e;refine m.heap b o ?_ (af _ (af _ e));simp only[az,cF,or_false,not_or,cL];exact⟨a_ lb,a_ (f_ lb)⟩
   ·cases r2 with
    |error e=>exact xZ
    |ok EA=>
     cases EA with
     |ret r=>
      obtain⟨rfl,h',tk,rfl,kH,oU⟩:=xZ
      repeat (any_goals first|assumption|wp_step)
      exact h _ _ kH oU
     |_=>exact xZ.elim
  |_=>exact hr.elim
end
end VS
namespace PySem.F
def entry_set_iterA:vQ table "set.__iter__"=el Builtin.«frozenset.__iter__»:=vP (id':="frozenset.__iter__") (by kernel_rfl) rfl (by decide +kernel) (by kernel_rfl)
def slot_sit_next:Slot "set_iterator" "__next__" "set_iterator.__next__":=Slot.of (owner:="set_iterator") (n:="__next__") (by rw[lY,i_];kernel_rfl) (by decide +kernel) (by decide +kernel) (by decide +kernel) (by first|exact .inl (by decide +kernel)|exact .inr (by decide +kernel)) (by rw[mN];kernel_rfl)
def entry_sit_next:vQ table "set_iterator.__next__"=el Builtin.«set_iterator.__next__»:=entryFor_of_tree (by kernel_rfl)
def a3T:Manifest.owners.lookup (String.ofList ['r','o','t','a','r','e','t','i','_','t','e','s'].reverse)=el Manifest.sig_set_iterator:=by kernel_rfl
def args_sit_next(a:ah):argsOk "set_iterator.__next__" ⟨[a],[]⟩:=by
 unfold argsOk;rw[signature?_of (id:="set_iterator.__next__") (n:=['_','_','t','x','e','n','_','_']) (o:=['r','o','t','a','r','e','t','i','_','t','e','s']) (by kernel_rfl) (by exact a3T)];kernel_rfl
def slot_sit_iter:Slot "set_iterator" "__iter__" "set_iterator.__iter__":=Slot.of (owner:="set_iterator") (n:="__iter__") (by rw[lY,i_];kernel_rfl) (by decide +kernel) (by decide +kernel) (by decide +kernel) (by first|exact .inl (by decide +kernel)|exact .inr (by decide +kernel)) (by rw[mN];kernel_rfl)
def args_sit_iter(a:ah):argsOk "set_iterator.__iter__" ⟨[a],[]⟩:=by
 unfold argsOk;rw[signature?_of (id:="set_iterator.__iter__") (n:=['_','_','r','e','t','i','_','_']) (o:=['r','o','t','a','r','e','t','i','_','t','e','s']) (by kernel_rfl) (by exact a3T)];kernel_rfl
def entry_sit_iter:vQ table "set_iterator.__iter__"=el Builtin.«dict_keyiterator.__iter__»:=vP (id':="dict_keyiterator.__iter__") (by kernel_rfl) rfl (by decide +kernel) (by kernel_rfl)
end PySem.F
namespace VS
open PySem PySem.Spec L2
theorem Z1:∀{l:List α} {i:Nat} (h:i<l.length),(l[i]::l.eraseIdx i).Perm l
 |a::l,0,_=>by simp
 |a::l,i+1,h=>by
  have h':i<l.length:=by simpa using h
  simp only[List.getElem_cons_succ,List.eraseIdx_cons_succ];exact (qf a l[i] _).trans (List.Perm.cons a (Z1 h'))
section
variable {M:Model}{A:bD}{E:ah→ai→Prop}{sh:ai}
def a7x(hn:n≠0)(q:∀i d,i<n→Q i {sh with drawn:=d}):aC M A (choose src n) Q E sh:=λΓ p hΓ=>by
 show Sem.wp M Γ (.choose src n .pure) _ _ p sh;rw[Sem.wp_choose];exact⟨hn,by simpa using q _ _ (Nat.mod_lt _ (Nat.pos_of_ne_zero hn))⟩
def b2s:∀(n:Nat) (xs:List α) (sh:ai) (Q:List α→ai→Prop),n=xs.length→(∀ys d,ys.Perm xs→Q ys {sh with drawn:=d})→aC M A (drawOrder n xs) Q E sh:=by
 intro n
 induction n with
 |zero=>
  intro xs sh Q e q;cases xs with
  |nil=>exact ae (q [] sh.drawn (et _))
  |cons _ _=>cases e
 |succ n ih=>
  intro xs sh Q e q;cases xs with
  |nil=>cases e
  |cons x xs=>
   rw[drawOrder];refine ab (a7x (by simp) λi d hi=>?_)
   ·rw[ak hi]
    dsimp only
    refine ab (ih _ _ _ (by rw[wa,aB hi];simp only[bh]at e ⊢;lia) λys d' hp=>?_);exact ae (q _ _ (by
     refine (List.Perm.cons _ hp).trans ?_;exact Z1 hi))
   ·simp
def b4I(next:Nat→Nat):∀(f k:Nat) (left:List α) (out:Array α),f=left.length→(Ca next f k left out).toList.Perm (out.toList++left):=by
 intro f
 induction f with
 |zero=>
  intro k left out e;cases left with
  |nil=>simp[Ca]
  |cons _ _=>cases e
 |succ f ih=>
  intro k left out e;have h0:0<left.length:=by lia
  have hm:next k % left.length<left.length:=Nat.mod_lt _ h0;rw[Ca,ak hm]
  dsimp only
  refine (ih _ _ _ (by rw[wa,aB hm];lia)).trans ?_;rw[Bw,bp];exact uw _ (Z1 hm)
def b0f(next:Nat→Nat)(xs:Array α):(k_ next xs).toList.Perm xs.toList:=by
 have:=b4I next xs.size 0 xs.toList #[] (by simp);simpa[k_]using this
end
def SIt(h:bN)(it:au)(first:ah)(i:Nat)(z:au)(n ep:Nat):Prop:=∃o,h.get? it=el o∧o.cls=.type "set_iterator"∧o.data=.fields #[first,.int i 0,.ref z,.int n 0,.int ep 0]
section
variable {prog:br}{w:bL}{A:bD}{E:ah→ai→Prop}{sh:ai}{it z:au}{first:ah}{i n ep:Nat}{o:fD}{es:Array (Int×ah)}{t:gn}{ms:Prop}
def SIt.at{h h':bN}(x:SIt h it first i z n ep)(k:∀o,h.get? it=el o→h'.get? it=el o):SIt h' it first i z n ep:=let⟨o,e,r⟩:=x;⟨o,k _ e,r⟩
def SIt.typ(x:SIt sh.heap it first i z n ep):sh.TypeIs (.ref it) "set_iterator":=let⟨o,e,r,_⟩:=x;⟨o,e,r⟩
def SIt.put{h:bN}(hx:∃o,h.get? it=el o∧o.cls=.type "set_iterator"∧o.data=.fields vs):∃o,(h.update it (zm (·.setIfInBounds j x))).get? it=el o∧o.cls=.type "set_iterator"∧o.data=.fields (vs.setIfInBounds j x):=
 let⟨o,e,c,d⟩:=hx;⟨_,bT _ e (mv (gh d _)),(p_ ..).trans c,gh d _⟩
def Q8(q:Q (w.params.followText "set-order") sh):aC (aV prog w) A setsByText Q E sh:=by
 unfold setsByText;exact ab (qJ (ae q))
def a5W(ho:sh.heap.get? z=el o)(r:B7 w o es ep t ms)(nO:w.params.followText "set-order"=false)(hp:t.plain=true∨es.size≤1)(kW:eM t.place sl=i)
  (q:(∀h:i<es.size,∀nx,eM t.place nx=i+1→Q (el (es[i].2,nx)) sh)∧(¬ i<es.size→Q p4 sh)):aC (aV prog w) A (tX z sl k qA) Q E sh:=by
 obtain⟨_,hd,hf,hu,hl,hb,he⟩:=id r;unfold tX;refine ab (gE ho hd hf (ab (Q8 ?_)));rw[nO,aI aQ];have yI:¬ (!t.plain&&decide (es.size>1))=true:=by
  rcases hp with c|c
  ·simp[c]
  ·simp;lia
 dsimp only
 refine ej (λc=>absurd c yI) λ_=>?_
 refine ab (show aC _ _ (if (!t.led&&!es.isEmpty)=true then _ else _) _ _ _ from ?_);rw[aI (by rw[hl,nO];simp)];refine ae ?_;have rV:t.place.size=es.size:=by simp only[gn.fits,av,ku]at hf;exact hf.1
 rw[kW];by_cases c:i<es.size
 ·have c':i<t.place.size:=by lia
  rw[bF c,bF c'];refine ae (q.1 c _ ?_);have:=a7w hu (i:=i) (by simpa using c');simpa using this
 ·rw[dw (by lia)];exact ae (q.2 c)
def a8y(ho:sh.heap.get? z=el o)(r:B7 w o es ep t ms)(nO:w.params.followText "set-order"=true)
  (q:Q ((k_ (w.params.setOrder z ep) es)[k]?.map λe=>(e.2,sl)) sh):aC (aV prog w) A (tX z sl k ep) Q E sh:=by
 obtain⟨_,hd,hf,_⟩:=id r;unfold tX;refine ab (gE ho hd hf (ab (Q8 ?_)));rw[nO,aB rfl];rw[aI (by simp)];refine ab ?_;unfold setWalk;refine ab (gE ho hd hf (ab (Q8 ?_)));rw[nO,aB rfl];exact ab (qJ (ae (ae q)))
def a5X{v:ah}{Φ:Nat→Prop}{Q:Option ah→ai→Prop}(hI:SIt sh.heap it first i z es.size ep)(ho:sh.heap.get? z=el o)(r:B7 w o es ep t ms){sl:Nat}(yF:first=.int sl 0)
  (hn:∀(A':bD) (E':ah→ai→Prop) (Q':Option (ah×Nat)→ai→Prop),(∀nx,Φ nx→Q' (el (v,nx)) sh)→aC (aV prog w) A' (tX z sl i ep) Q' E' sh)
  (q:∀nx h',Φ nx→SIt h' it (.int nx 0) (i+1) z es.size ep→cE it sh.heap h'→Q (el v) {sh with heap:=h'}):aC (aV prog w) A (fP (.ref it)) Q E sh:=by
 subst yF;obtain⟨x,hx,qT,lI⟩:=id hI;obtain⟨_,hd,hf,_⟩:=id r;unfold fP;refine ab (gz (bK (name:=cm "__next__") hI.typ F.slot_sit_next (bB F.slot_sit_next hI.typ F.entry_sit_next ?_ (F.args_sit_next _))));unfold Builtin.«set_iterator.__next__»;refine ab (m:=uH "__next__" 0 _) (ae ?_);refine ab (iN hx lI ?_)
 dsimp only
 refine ab (ia ho hd hf ?_);rw[aI (by simp)];simp only[bV];refine ab (hn _ _ _ λnx e=>?_)
 dsimp only
 refine ab (eH hx lI (by simp) ?_);obtain⟨x1,ua,AF,wH⟩:=SIt.put (it:=it) (x:=cY (nx:Nat)) (j:=0) ⟨x,hx,qT,lI⟩;refine ab (eH ua wH (by simp) ?_);obtain⟨x2,uW,md,hd2⟩:=SIt.put (it:=it) (x:=cY ((i:Int)+1)) (j:=1) ⟨x1,ua,AF,wH⟩;refine ae ⟨_,rfl,ae (q nx _ e ⟨x2,uW,md,?_⟩ ((bQ ..).trans (bQ ..)))⟩;rw[hd2];simp[cY]
def a5Y(hh:A.handled=p4)(q:∀h',(∀b o,sh.heap.get? b=el o→h'.get? b=el o)→Q p4 {sh with heap:=h'}) :
  aC (aV prog w) A.in1 (Ci (.type "StopIteration") [] >>= λe=>(raiseNew e:Sem PySem.Fin)) (λfin s'=>∃v,fin=Fin.done (Flow.ret v)∧aC (aV prog w) A (pure (el v)) Q E s') (λe s'=>aC (aV prog w) A (isInstance e (dD "StopIteration") >>= λb=>if b=true then pure p4 else throw e) Q E s') sh:=by
 refine ab ?_;simp only[Ci,newTuple];refine ab (dg ?_ (by size_fits));refine ab (m:=iO _ _) (rK (a:=bz) (by first|rfl|(simp only[iO];rfl)) ?_);refine dg ?_ (by size_fits);simp only[raiseNew];refine ab (xp ?_);rw[show A.in1.handled=p4 from hh];refine ab (ae (wpAny_throw ?_));refine ab (fu (b:=true) (T:="StopIteration") ⟨_,aE _ rfl,rfl⟩ uP ?_);exact ae (q _ λb o e=>af _ (af _ e))
def a8z{Q:Option ah→ai→Prop}(hh:A.handled=p4)(hI:SIt sh.heap it first i z es.size ep)(ho:sh.heap.get? z=el o)(r:B7 w o es ep t ms){sl:Nat}(yF:first=.int sl 0)
  (hn:∀(A':bD) (E':ah→ai→Prop) (Q':Option (ah×Nat)→ai→Prop),Q' p4 sh→aC (aV prog w) A' (tX z sl i ep) Q' E' sh)
  (q:∀h',sD it sh.heap h'→Q p4 {sh with heap:=h'}):aC (aV prog w) A (fP (.ref it)) Q E sh:=by
 subst yF;obtain⟨x,hx,qT,lI⟩:=id hI;obtain⟨_,hd,hf,_⟩:=id r;unfold fP;refine ab (gz (bK (name:=cm "__next__") hI.typ F.slot_sit_next (bB F.slot_sit_next hI.typ F.entry_sit_next ?_ (F.args_sit_next _))));unfold Builtin.«set_iterator.__next__»;refine ab (m:=uH "__next__" 0 _) (ae ?_);refine ab (iN hx lI ?_)
 dsimp only
 refine ab (ia ho hd hf ?_);rw[aI (by simp)];simp only[bV];refine ab (hn _ _ _ ?_)
 dsimp only
 refine ab (eH hx lI (by simp) ?_);exact a5Y hh λh' k=>q h' λb o hb e=>k b o ((bQ ..).extBut b o hb e)
def b0g{ps:List Nat}(hI:SIt sh.heap it (.ref tp) i z es.size ep)(ho:sh.heap.get? z=el o)(r:B7 w o es ep t ms)(ht:sh.heap.get? tp=el {cls:=.type "tuple",data:=.seq (ps.map λi=>cY (i:Nat)).toArray})(hp:ps[i]?=el p)(hW:p<es.size)
  (q:∀h',SIt h' it (.ref tp) (i+1) z es.size ep→cE it sh.heap h'→Q (el es[p].2) {sh with heap:=h'}):aC (aV prog w) A (fP (.ref it)) Q E sh:=by
 obtain⟨x,hx,qT,lI⟩:=id hI;obtain⟨_,hd,hf,_⟩:=id r;unfold fP;refine ab (gz (bK (name:=cm "__next__") hI.typ F.slot_sit_next (bB F.slot_sit_next hI.typ F.entry_sit_next ?_ (F.args_sit_next _))));unfold Builtin.«set_iterator.__next__»;refine ab (m:=uH "__next__" 0 _) (ae ?_);refine ab (iN hx lI ?_)
 dsimp only
 refine ab (ia ho hd hf ?_);rw[aI (by simp)];simp only[bV];refine ab ?_;unfold zB;refine ab (lK ht ?_);refine ae ?_;have e1:(ps.map λi=>cY (i:Nat)).toArray[i]?=el (cY (p:Nat)):=by rw[ur,aU,hp];rfl
 dsimp only
 rw[e1];show aC _ _ (setNextDrawn z (p:Int).toNat ep >>= λx=>setField (.ref it) 1 (cY ((i:Int)+1)) >>= λ_=>ret x) _ _ _;refine ab ?_;unfold setNextDrawn;refine ab (gE ho hd hf ?_)
 dsimp only
 rw[aI (by simp),bV,bF hW];refine ab (ae (ae ?_));refine ab (eH hx lI (by simp) ?_);obtain⟨x2,uW,md,hd2⟩:=SIt.put (it:=it) (x:=cY ((i:Int)+1)) (j:=1) ⟨x,hx,qT,lI⟩;refine ae ⟨_,rfl,ae (q _ ⟨x2,uW,md,?_⟩ (bQ ..))⟩;rw[hd2];simp[cY]
def a4X{ps:List Nat}(hh:A.handled=p4)(hI:SIt sh.heap it (.ref tp) i z es.size ep)(ho:sh.heap.get? z=el o)(r:B7 w o es ep t ms)(ht:sh.heap.get? tp=el {cls:=.type "tuple",data:=.seq (ps.map λi=>cY (i:Nat)).toArray})(hp:ps[i]?=p4)
  (q:∀h',sD it sh.heap h'→Q p4 {sh with heap:=h'}):aC (aV prog w) A (fP (.ref it)) Q E sh:=by
 obtain⟨x,hx,qT,lI⟩:=id hI;obtain⟨_,hd,hf,_⟩:=id r;unfold fP;refine ab (gz (bK (name:=cm "__next__") hI.typ F.slot_sit_next (bB F.slot_sit_next hI.typ F.entry_sit_next ?_ (F.args_sit_next _))));unfold Builtin.«set_iterator.__next__»;refine ab (m:=uH "__next__" 0 _) (ae ?_);refine ab (iN hx lI ?_)
 dsimp only
 refine ab (ia ho hd hf ?_);rw[aI (by simp)];simp only[bV];refine ab ?_;unfold zB;refine ab (lK ht (ae ?_));have e1:(ps.map λi=>cY (i:Nat)).toArray[i]?=p4:=by rw[ur,aU,hp];rfl
 dsimp only
 rw[e1]
 dsimp only
 refine ab (eH hx lI (by simp) ?_);obtain⟨x1,ua,AF,wH⟩:=SIt.put (it:=it) (x:=cY 0) (j:=0) ⟨x,hx,qT,lI⟩;refine ab (eH ua wH (by simp) ?_);exact a5Y hh λh' k=>q h' λb o hb e=>k b o (((bQ ..).trans (bQ ..)).extBut b o hb e)
def a2E(hI:SIt sh.heap it first i z n ep)(q:Q (.ref it) sh):aC (aV prog w) A (qO (.ref it)) Q E sh:=
 oX hI.typ F.slot_sit_iter (bB F.slot_sit_iter hI.typ F.entry_sit_iter (show aC _ _ (ret (.ref it)) _ _ sh from ae ⟨_,rfl,"set_iterator",_,hI.typ,F.slot_sit_next.lookup,q⟩) (F.args_sit_iter _))
end
section
variable {prog:br}{w:bL}{A:bD}{E:ah→ai→Prop}{sh:ai}{it z tp:au}{ep:Nat}{o:fD}{es:Array (Int×ah)}{t:gn}{ms:Prop}
def b2t(hh:A.handled=p4)(r:B7 w o es ep t ms)(nO:w.params.followText "set-order"=false)(hp:t.plain=true∨es.size≤1)(ne:z≠it) :
  lC prog w A it [it,z] [it] (es.toList.map (·.2)).length (λi v=>(es.toList.map (·.2))[i]?=el v) (λi h=>(∃sl:Nat,SIt h it (.int sl 0) i z es.size ep∧eM t.place sl=i)∧h.get? z=el o) where
 sub:=λb hb=>az.mpr (.inl (ao.mp hb))
 frame:=λ_ _ _ st k=>let⟨⟨sl,a,b⟩,c⟩:=st;⟨⟨sl,a.at λo e=>k it aj o e,b⟩,k z (aq _ aj) _ c⟩
 item:=λi s Q E hi st q=>by
  obtain⟨⟨sl,a,b⟩,c⟩:=st;have jJ:i<es.size:=by simpa using hi
  exact a5X (Φ:=λnx=>eM t.place nx=i+1) (v:=es[i].2) a c r rfl (λA' E' Q' q'=>a5W c r nO hp b ⟨λh nx sT=>q' nx sT,λh=>absurd jJ h⟩) λnx h' sT sg sb=>
   q _ h' s.toks (by rw[aU,bR,bF jJ];rfl) ⟨⟨nx,sg,sT⟩,sb.extBut z o ne c⟩ λb o hb e=>sb.extBut b o (λy=>hb (by rw[y];exact ao.mpr rfl)) e
 done:=λs Q E st q=>by
  obtain⟨⟨sl,a,b⟩,c⟩:=st;refine a8z hh a c r rfl (λA' E' Q' q'=>a5W c r nO hp b ⟨λh=>absurd h (by simp),λ_=>q'⟩) λh' he=>q h' s.toks λb o hb e=>he b o (λy=>hb (by rw[y];exact ao.mpr rfl)) e
 self:=λ_ _ _ _ st q=>let⟨⟨_,a,_⟩,_⟩:=st;a2E a q
def b4J(hh:A.handled=p4)(r:B7 w o es ep t ms)(nO:w.params.followText "set-order"=true)(ne:z≠it) :
  lC prog w A it [it,z] [it] ((k_ (w.params.setOrder z ep) es).toList.map (·.2)).length (λi v=>((k_ (w.params.setOrder z ep) es).toList.map (·.2))[i]?=el v) (λi h=>SIt h it (.int (0:Nat) 0) i z es.size ep∧h.get? z=el o) where
 sub:=λb hb=>az.mpr (.inl (ao.mp hb))
 frame:=λ_ _ _ st k=>let⟨a,c⟩:=st;⟨a.at λo e=>k it aj o e,k z (aq _ aj) _ c⟩
 item:=λi s Q E hi st q=>by
  obtain⟨a,c⟩:=st;have jJ:i<(k_ (w.params.setOrder z ep) es).size:=by simpa using hi
  exact a5X (Φ:=λnx=>nx=0) (v:=(k_ (w.params.setOrder z ep) es)[i].2) a c r rfl (λA' E' Q' q'=>a8y c r nO (by rw[bF jJ];exact q' 0 rfl)) λnx h' sT sg sb=>
   q _ h' s.toks (by rw[aU,bR,bF jJ];rfl) ⟨sT▸sg,sb.extBut z o ne c⟩ λb o hb e=>sb.extBut b o (λy=>hb (by rw[y];exact ao.mpr rfl)) e
 done:=λs Q E st q=>by
  obtain⟨a,c⟩:=st;refine a8z hh a c r rfl (λA' E' Q' q'=>a8y c r nO (by rw[dw (by simp)];exact q')) λh' he=>q h' s.toks λb o hb e=>he b o (λy=>hb (by rw[y];exact ao.mpr rfl)) e
 self:=λ_ _ _ _ st q=>a2E st.1 q
def b2u{ps:List Nat}(hh:A.handled=p4)(r:B7 w o es ep t ms)(rV:∀p∈ps,p<es.size)(ne:z≠it)(ne2:tp≠it) :
  lC prog w A it [it,z,tp] [it] (ps.map λp=>(es.toList.map (·.2)).getD p .none).length (λi v=>(ps.map λp=>(es.toList.map (·.2)).getD p .none)[i]?=el v) (λi h=>SIt h it (.ref tp) i z es.size ep∧h.get? z=el o∧h.get? tp=el {cls:=.type "tuple",data:=.seq (ps.map λi=>cY (i:Nat)).toArray}) where
 sub:=λb hb=>az.mpr (.inl (ao.mp hb))
 frame:=λ_ _ _ st k=>let⟨a,c,d⟩:=st;⟨a.at λo e=>k it aj o e,k z (aq _ aj) _ c,k tp (aq _ (aq _ aj)) _ d⟩
 item:=λi s Q E hi st q=>by
  obtain⟨a,c,d⟩:=st;have jJ:i<ps.length:=by simpa using hi
  have hW:=rV _ (cG jJ);exact b0g (p:=ps[i]) a c r d (ak jJ) hW λh' sg sb=>
   q _ h' s.toks (by rw[aU,ak jJ,Gg,aM,aU,bR,bF hW];rfl) ⟨sg,sb.extBut z o ne c,sb.extBut tp _ ne2 d⟩ λb o hb e=>sb.extBut b o (λy=>hb (by rw[y];exact ao.mpr rfl)) e
 done:=λs Q E st q=>by
  obtain⟨a,c,d⟩:=st;exact a4X hh a c r d (dY (by simp)) λh' he=>q h' s.toks λb o hb e=>he b o (λy=>hb (by rw[y];exact ao.mpr rfl)) e
 self:=λ_ _ _ _ st q=>a2E st.1 q
def b2v(ho:sh.heap.get? z=el o)(r:B7 w o es ep t ms)
  (q:∀(it:au) (h':bN) (d:Drawn) (fp:List au) (St:Nat→bN→Prop) (ord:List ah),ord.Perm (es.toList.map (·.2))→(∀A':bD,A'.handled=p4→lC prog w A' it fp [it] ord.length (λi v=>ord[i]?=el v) St)→St 0 h'→sh.heap.objs.size≤it→(∀b∈fp,b=z∨sh.heap.objs.size≤b)→
   (∀b o,sh.heap.get? b=el o→h'.get? b=el o)→Q (.ref it) {sh with heap:=h',drawn:=d}):aC (aV prog w) A (qO (.ref z)) Q E sh:=by
 obtain⟨hex,hd,hf,hu,hl,hb,he⟩:=id r;have hT:sh.TypeIs (.ref z) "set":=⟨o,ho,hex.1⟩;have lz:=aG ho;refine oX hT F.slot_set_iter (bB F.slot_set_iter hT F.entry_set_iterA ?_ (F.args_set_iter_1 _));unfold Builtin.«frozenset.__iter__» Builtin.Frozenset.slot0;refine ab (m:=uH "__iter__" 0 _ >>= _) (ab (ae (show aC _ _ (pure z) _ _ _ from ae ?_)));unfold Builtin.Frozenset.sizeOf;refine ab (ab (ia ho hd hf (ae ?_)));unfold setDrawn;refine ab (ab (gE ho hd hf (ab (Q8 (ae ?_)))))
 dsimp only
 have tail:∀(first:ah) (tW:ai),tW.heap.get? z=el o→(∀o1:fD,o1={cls:=.type "set_iterator",data:=.fields #[first,.int (0:Nat) 0,.ref z,.int es.size 0,.int ep 0]}→Q (.ref tW.heap.objs.size) {tW with heap:=tW.heap.push o1})→
   aC (aV prog w) A.in1 (setEpoch z >>= λe=>newFields "set_iterator" [first,cY 0,.ref z,cY es.size,cY e] >>= λv=>ret v) (λfin s'=>∃v,fin=Fin.done (Flow.ret v)∧∃T' r,s'.TypeIs v T'∧om (dD T') (cm "__next__")=pure (el r)∧Q v s') E tW:=λfirst tW h1 q1=>by
  refine ab (wpAny_setEpoch_of h1 hd hf ?_);unfold newFields;refine ab (dg (ae ⟨_,rfl,"set_iterator",_,⟨_,aE _ rfl,rfl⟩,F.slot_sit_next.lookup,?_⟩));exact q1 _ (by simp[cY])
 refine ej (λc=>?_) λc=>?_
 ·rw[av]at c;refine ab (b2s _ _ _ _ (by simp) λps d hp=>?_);have ko:∀p∈ps,p<es.size:=λp h=>b_.mp (hp.mem_iff.mp h)
  refine ab (mG ?_ (by rw[ar,hp.length_eq,gc];exact kI hb));refine tail _ _ (af _ ho) λo1 e1=>?_
  refine q _ _ d [(sh.heap.push {cls:=.type "tuple",data:=.seq (ps.map λi=>cY (i:Nat)).toArray}).objs.size,z,sh.heap.objs.size] _ _ ?_ (λA' hA=>b2u (ps:=ps) (tp:=sh.heap.objs.size) hA r ko ?_ ?_) ⟨⟨o1,aE _ (by rw[e1];rfl),by rw[e1],by rw[e1]⟩,af _ (af _ ho),af _ (aE _ rfl)⟩ ?_ ?_ λb o e=>af _ (af _ e)
  ·exact X5 (l:=es.toList.map (·.2)) (by simpa using hp)
  ·rw[cL];exact a_ (f_ lz)
  ·rw[cL];exact a_ (kh _)
  ·rw[cL];exact eU _
  ·intro b kn;rw[cL]at kn;simp only[az,cF,or_false]at kn;rcases kn with rfl|rfl|rfl
   ·exact .inr (eU _)
   ·exact .inl rfl
   ·exact .inr (aD _)
 ·refine ab (ae (tail _ _ ho λo1 e1=>?_));have wF:∀b∈[sh.heap.objs.size,z],b=z∨sh.heap.objs.size≤b:=by
   intro b kn;simp only[az,cF,or_false]at kn;rcases kn with rfl|rfl
   ·exact .inr (aD _)
   ·exact .inl rfl
  have hI:SIt (sh.heap.push o1) sh.heap.objs.size (.int (0:Nat) 0) 0 z es.size ep:=⟨o1,aE _ (by rw[e1];rfl),by rw[e1],by rw[e1];rfl⟩;have sH:(sh.heap.push o1).get? z=el o:=af _ ho;cases nO:w.params.followText "set-order" with
  |true=>
   exact q _ _ sh.drawn [sh.heap.objs.size,z] _ _ ((b0f _ es).map _) (λA' hA=>b4J hA r nO (a_ lz)) ⟨hI,sH⟩ (aD _) wF λb o e=>af _ e
  |false=>
   have fJ:t.plain=true∨es.size≤1:=by
    rw[nO]at c;have c':¬ (!t.plain&&decide (es.size>1))=true:=λz=>c (show (!false&&(!t.plain&&decide (es.size>1)))=true from by rw[z];rfl)
    cases h:t.plain with
    |true=>exact .inl rfl
    |false=>
     rw[h]at c';simp at c';exact .inr (by lia)
   exact q _ _ sh.drawn [sh.heap.objs.size,z] _ _ (et _) (λA' hA=>b2t hA r nO fJ (a_ lz)) ⟨⟨0,hI,a7v hu⟩,sH⟩ (aD _) wF λb o e=>af _ e
def b2w(hT:sh.TypeIs (.ref z) "set")(h:Q false sh):aC (aV prog w) A (gH (.ref z)) Q E sh:=by
 unfold gH;refine ab (dy hT (by exact PySem.F.slot_set_len.lookup) ?_);generalize Av:("set.__len__":String)=Cy
 wp_delta
 rw[show splitId Cy=el ("set","__len__") from by subst Av;decide +kernel];subst Av;refine ab (fu (T:="set") (b:=true) hT (by rw[mN];kernel_rfl) (ej (λy=>absurd y (by decide)) λ_=>ej (λ_=>?_) λy=>absurd (by decide +kernel) y));exact ab (gY hT (ae h))
end
end VS
namespace VS
open PySem PySem.Spec L2
open PyProof.Rows (KeyOrd SortKind seqObj size_push' slot_list_sort entry_list_sort args_list_sort kind_sorted plain_sorted entry_sorted args_sorted1)
section
variable {prog:br}{w:bL}{A:bD}{E:ah→ai→Prop}{sh:ai}{z:au}{ep:Nat}{o:fD}{es:Array (Int×ah)}{t:gn}{ms:Prop}
def a5Z(hh:A.handled=p4)(ho:sh.heap.get? z=el o)(r:B7 w o es ep t ms)
  (q:∀(vs:List ah) (h':bN) (tk:Nat) (d:Drawn),vs.Perm (es.toList.map (·.2))→Kept sh.heap h'→sh.heap.objs.size≤h'.objs.size→Q vs {sh with heap:=h',toks:=tk,drawn:=d}):aC (aV prog w) A (collect (.ref z)) Q E sh:=by
 have lz:=aG ho
 let L:fD:={cls:=.type "list",data:=.seq #[]}
 have xK:(sh.heap.push L).get? z=el o:=af _ ho;have Ed:kS {sh with heap:=sh.heap.push L} (.ref z) "set":=⟨o,xK,r.1.1⟩;have DW:es.size≤aS:=kI r.2.2.2.2.2.1
 let S:au:=sh.heap.objs.size
 have key:∀(it:au) (fp:List au) (St:Nat→bN→Prop) (ord:List ah) (d:Drawn) (W:∀A':bD,A'.handled=p4→lC prog w A' it fp [it] ord.length (λi v=>ord[i]?=el v) St),ord.Perm (es.toList.map (·.2))→S∉fp→sh.heap.objs.size≤it→
   ∀(h:bN) (c1 tk:Nat),St 0 h→(∀b o,b≠S→(sh.heap.push L).get? b=el o→h.get? b=el o)→h.get? S=el {cls:=.type "list",data:=.seq #[] c1}→
   gF (aV prog w) A (.builtin "list.extend.loop" ⟨[.ref S,.ref it,.ref S],[]⟩) (λg s'=>∃(h':bN) (tk:Nat) (d:Drawn) (acc:Array ah) (c:Nat),g=.ok (.ret (.ref S))∧s'={sh with heap:=h',toks:=tk,drawn:=d}∧h'.get? S=el {cls:=.type "list",dict:=p4,data:=.seq acc c,slots:=#[]}∧Q acc.toList {sh with heap:=h',toks:=tk,drawn:=d}) {sh with heap:=h,toks:=tk,drawn:=d}:=by
  intro it fp St ord d W hp nf hit h c1 tk st k hS;have hn:ord.length≤aS:=by rw[hp.length_eq];simpa using DW
  refine PySem.codeAny_extend_loopS (W A.in1 (by simpa using hh)).toS hn S nf (.ref S) ord.length 0 _ #[] c1 rfl (bI _) st hS (ItemsOf.nil _) λs' acc c' m kH ll=>?_
  rw[Moved.eq_with m];refine⟨s'.heap,s'.toks,d,acc,c',rfl,rfl,kH,?_⟩;have e:acc.toList=ord:=by
   refine jH λi=>?_
   rw[bR];by_cases c:i<ord.length
   ·obtain⟨x,hx⟩:∃x,acc[i]?=el x:=⟨_,bF (by rw[ll.1];exact c)⟩;rw[hx];exact (ll.2 i x hx).symm
   ·rw[dw (by rw[ll.1];lia),dY (by lia)]
  rw[e];refine q ord s'.heap s'.toks d hp (λb o x=>m.heap b o (λhm=>?_) (k b o (a_ (aG x)) (af _ x))) (dE (aG kH));have lb:=aG x;rcases az.mp hm with e'|e'
  ·exact absurd (e'▸lb) (dt _)
  ·exact absurd lb (by rw[ao.mp e'];exact Nat.not_lt.mpr hit)
 unfold collect;refine ab (mE (dP (by exact mC) ?_));rw[cW (by exact oW) _];show aC _ A.in1 (newList [] >>= λl=>again (.builtin "list.__iadd__" ⟨[l,.ref z],[]⟩)) _ _ sh;refine ab (dg (ae ⟨fm (by exact hZ) _,dP (by exact nZ) ?_⟩));rw[cW (by exact hZ) _];show aC _ A.in1 (dq (.ref S) (.ref z) (.ref S)) _ _ {sh with heap:=sh.heap.push L};have AK:S≠z:=dQ lz;unfold dq;refine ab (gY (T:="set") Ed ?_);have h1:il (.ref S) (.ref z)=false:=by simp[il,AK]
 simp only[h1,show (dD "set" == dD "list")=false from by decide,show (dD "set" == dD "tuple")=false from by decide,Bool.or_false,cg,dX];refine ab (b2v (sh:={sh with heap:=sh.heap.push L}) xK r λit h' d fp St ord hp W st hit wF k=>?_);have pI:sh.heap.objs.size≤it:=cw (by show _≤(sh.heap.push L).objs.size;rw[cL];exact eU _) hit;have nf:S∉fp:=λy=>by
  rcases wF S y with e|e
  ·exact AK e
  ·have e':(sh.heap.push L).objs.size≤S:=e;rw[cL]at e';exact absurd e' (Nat.not_succ_le_self _)
 have vH:h'.get? S=el {cls:=.type "list",data:=.seq #[] 0}:=k S _ (aE _ rfl);have sH:h'.get? z=el o:=k z _ xK;have last:∀(h2:bN) (c1:Nat),St 0 h2→(∀b o,b≠S→(sh.heap.push L).get? b=el o→h2.get? b=el o)→h2.get? S=el {cls:=.type "list",data:=.seq #[] c1}→_:=λh2 c1 a b c=>fK (key it fp St ord d W hp nf pI h2 c1 sh.toks a b c) (R':=λr s'=>match r with
       |Except.ok (Flow.ret v)=>aC (aV prog w) A (match v with|aW a=>load a >>= λu=>(match u.data with|Data.seq xs _=>pure xs.toList|_=>rN "internal:collect")|_=>rN "internal:collect") Q E s'
       |Except.ok _=>False
       |Except.error e=>E e s') λg s2 y=>by
  obtain⟨h3,tk,d3,acc,c,rfl,rfl,e1,qq⟩:=y;show aC _ A (load S >>= _) _ _ _;exact ab (lK e1 (ae qq))
 refine ab (bJ (b2w ⟨o,sH,r.1.1⟩ ?_));refine ej (λ_=>?_) (λ_=>ae ⟨fm (by exact qE) _,last h' 0 st (λb o _ e=>k b o e) vH⟩);refine ab (dW (ab ?_));show aC _ _ (qK S (·.push .none) >>= λ_=>qK S (·.pop)) _ _ _;refine ab (jC vH rfl ?_);have vG:=bT (eu (·.push bz)) vH rfl;refine jC (hz:=by seq_fits) vG rfl ?_;have yV:=bT (eu (·.pop)) vG rfl;refine ae ⟨fm (by exact qE) _,last _ _ ?_ (λb o hb e=>?_) yV⟩
 ·exact (W A hh).frame 0 _ _ st λb hb o e=>by
   have AG:S≠b:=λy=>nf (by rw[y];exact hb)
   exact (c_ _ _ AG).trans ((c_ _ _ AG).trans e)
 ·exact (c_ _ _ (dN hb)).trans ((c_ _ _ (dN hb)).trans (k b o e))
end
end VS
namespace VS
open PySem PySem.Spec L2
open PyProof.Rows (KeyOrd SortKind seqObj size_push' slot_list_sort entry_list_sort args_list_sort kind_sorted plain_sorted entry_sorted args_sorted1 IntsAre firstMet)
section
variable {prog:br}{w:bL}{A:bD}{E:ah→ai→Prop}{sh:ai}{z:au}{ep:Nat}{o:fD}{es:Array (Int×ah)}{t:gn}{ms:List Int}
def b4K(he:EI l ms){vs:List ah}(hp:vs.Perm (l.map (·.2))):(∀v∈vs,∃n tk,v=.int n tk)∧(vs.map iOf).Perm ms:=by
 refine⟨λv hv=>?_,(hp.map iOf).trans ?_⟩
 ·obtain⟨e,h1,rfl⟩:=aY.mp (hp.mem_iff.mp hv);obtain⟨n,tk,h2,_⟩:=he.1 e h1;exact⟨n,tk,h2⟩
 ·rw[bO];exact he.2
theorem a8A:∀{vs:List ah},(∀v∈vs,∃n tk,v=.int n tk)→IntsAre vs (vs.map iOf)
 |[],_=>.nil
 |v::vs,h=>by
  obtain⟨n,tk,rfl⟩:=h v aj;exact .cons n tk (a8A λx hx=>h x (aq _ hx))
def a7y(hh:A.handled=p4)(ho:sh.heap.get? z=el o)(r:a2D w o es ep t ms)(sj:ms.length<64)
  (q:∀(vs:List ah) (h':bN) (tk e:Nat) (d:Drawn) (y:au),IntsAre vs (srt ms)→Kept sh.heap h'→sh.heap.objs.size≤y→h'.get? y=el (iH "list" vs.toArray e)→Q (.ref y) {sh with heap:=h',toks:=tk,drawn:=d}) :
  aC (aV prog w) A (call (.builtin "sorted") [.ref z]) Q E sh:=by
 refine kF kind_sorted plain_sorted entry_sorted (args_sorted1 _) ?_;unfold Builtin.«sorted»;refine ab (m:=checkCount "sorted" 1 1 _) (ae ?_);refine ab (a5Z (A:=A.in1) (by simpa using hh) ho r λvs h1 tk d hp k1 z1=>?_);obtain⟨i1,i2⟩:=b4K r.2.2.2.2.2.2 hp;have hl:vs.length<64:=by have:=i2.length_eq;rw[ar]at this;lia
 refine ab (xo ?_ (by rw[cQ];lia));have oL:(h1.push (iH "list" vs.toArray 0)).get? h1.objs.size=el (iH "list" vs.toArray 0):=aE _ rfl;refine ab (bJ (bB slot_list_sort ⟨_,oL,rfl⟩ entry_list_sort (PyProof.Rows.list_sort_tree (s:={sh with heap:=h1.push (iH "list" vs.toArray 0),toks:=tk,drawn:=d}) oL (a8A i1) hl λout zG a1 a2 a3=>⟨_,rfl,?_⟩) (args_list_sort _)));obtain⟨e,jr⟩:=PyProof.Rows.sortedHeap_at (out:=out) oL;refine ae ⟨_,rfl,q out.toList _ tk e d h1.objs.size ?_ (λb u hb=>?_) z1 (by rw[iU];exact jr)⟩
 ·rw[←a5J (a2.trans i2) a3];exact a1
 ·have kn:=k1.push (iH "list" vs.toArray 0) b u hb;have:=aG hb;exact (PyProof.Rows.sortedHeap_old (a_ (bw (aG hb) z1)) (aG kn)).trans kn
end
section
variable {X:Cx}{M:List Md}{a:Expr}{fa:EvE}{ca:Cat}{pos ig p p2:ff}{pins:List (au×fD)}{σ:L2.St}{H:Hp}{s:ai}
def b0h(I:Inv X pins σ H s)(d:Drawn):Inv X pins σ H {s with drawn:=d}:=⟨I.ok,I.os,I.bare,I.base,I.loc,I.cell,I.free,I.freeC,I.pin,I.hok,I.len⟩
def b0i(hc:X.calm=true):CallR X (.type "set") (λxs H Q=>∃(p:au) (ns:List Int),xs=[.ref p]∧SqX X.K H p (ns.map V.int)∧ns.length<4000∧∀z,H z=p4→Q (.ref z) (upd H z (.ext λh=>SetI X.w h z (dis ns)))):=by
 intro pins s σ H xs us Q I rv h;obtain⟨p,ns,rfl,hp,hn,q⟩:=h;obtain⟨u,rfl,rx⟩:=vals1 rv;cases (show u=aW p from rx)
 obtain⟨_,cJ,n,qg,ho⟩:=hp.ok I;have hl:s.heap.IsList p cJ.toArray:=⟨_,ho,rfl,n,rfl⟩;have hlen:cJ.length=ns.length:=by have:=qg.length;rw[ar]at this;exact this.symm
 refine b0e (ns:=ns) (I.ok.hd hc) hl (by simpa using V7 qg) (by rw[bb,hlen];unfold je;lia) λh' tk hS hk=>?_
 have oG:H s.heap.objs.size=p4:=I.hok.fresh (aD _);have hsz:cJ.toArray.size=ns.length:=by rw[bb];exact hlen
 rw[hsz]at hS;exact⟨.ref s.heap.objs.size,_,I.laid (a:=s.heap.objs.size) (o:=.ext λh=>SetI X.w h s.heap.objs.size (dis ns)) (t':=tk) hk (aD _) ⟨hS,let⟨o,_,_,_,e,_⟩:=hS;⟨o,e⟩,λ_ _ x k=>x.at k⟩,rfl,q _ oG⟩
def a7z(hc:X.calm=true):CallR X (.builtin "sorted") (λxs H Q=>∃p ms,xs=[V.ref p]∧H p=el (.ext λh=>SetI X.w h p ms)∧ms.length<64∧∀z,H z=p4→Q (.ref z) (upd H z (.lst ((srt ms).map V.int)))):=by
 intro pins s σ H xs us Q I rv h;obtain⟨p,ms,rfl,hH,sj,q⟩:=h;obtain⟨u,rfl,rx⟩:=vals1 rv;cases (show u=aW p from rx)
 obtain⟨⟨o,es,ep,t,ho,r⟩,_,_⟩:=(show (SetI X.w s.heap p ms)∧_∧_ from I.hok p _ hH);refine a7y (I.ok.hd hc) ho r sj λvs h' tk e d y hi hk hy hl=>?_
 have hn:H y=p4:=I.hok.fresh hy;have kW:((srt ms).map V.int).length≤aS:=by rw[ar,(G5 ms).length_eq,cQ];lia
 exact⟨.ref y,_,b0h (I.laid (a:=y) (o:=.lst ((srt ms).map V.int)) (t':=tk) hk hy ⟨kW,vs,e,vals_ints hi,hl⟩) d,rfl,q _ hn⟩
noncomputable def a0q(a:EvE):EvE:=λρ=>(a ρ).bind λd=>(asL d).bind λds=>(intsOf ds).bind λns=>if ns.length<64 then el (.list ((srt (dis ns)).map .int)) else p4
def b7F(ns:List Int):(dis ns).length≤ns.length:=PyProof.Rows.firstMet_length_le _ _
def a7A(hc:X.calm=true)(hm:X.mg "set"=p4)(Dk:X.mg "sorted"=p4)(ha:PX X M a fa ca)(hg:Gl X "set":=by rfl)(DC:Gl X "sorted":=by rfl)(he:aw [a] X.env=(false,cy a X.env)::aw [] X.env:=by rfl)(fJ:(cx ig (aw [] X.env)).any (·.1)=false:=by rfl)
  (nu:aw [.Call (.Name "set" p2) [a] [] ig] X.env=(false,cy (.Call (.Name "set" p2) [a] [] ig) X.env)::aw [] X.env:=by rfl) (pD:(cx pos (aw [] X.env)).any (·.1)=false:=by rfl) :
  PX X M (.Call (.Name "sorted" p) [.Call (.Name "set" p2) [a] [] ig] [] pos) (a0q fa) (.new (.l .i)):=by
 obtain⟨ta,pa,qa⟩:=ha.out;refine .mk ⟨_,K1 (a7z hc) DC Dk PyProof.Rows.Boot.«sorted» (l5 (J7 (b0i hc) hg hm PyProof.Rows.Boot.«set» (l5 pa p0 he) (by decide) (by decide) he fJ) p0 nu) (by decide) (by decide) nu pD,λρ σ H P F d Q S hf q=>?_⟩;obtain⟨x,h1,g1⟩:=bnd hf;obtain⟨ds,h2,g2⟩:=bnd g1;obtain⟨ns,h3,g3⟩:=bnd g2;cases G0 h2
 cases C9 h3
 by_cases c:ns.length<64
 ·rw[aB c]at g3;cases g3
  refine qa ρ σ H P F _ _ S h1 λv H1 e1 r1=>?_
  obtain⟨pp,xs,rfl,k1,k2⟩:=r1.den.list_inv;cases M5 k2
  refine⟨pp,ns,rfl,k1,by lia,λz hz=>⟨z,_,rfl,i6,by have:=b7F ns;lia,λy hy=>?_⟩⟩;have e2:=e1.trans (k6 hz (.ext λh=>SetI X.w h z (dis ns)));refine q _ _ (e2.trans (k6 hy _)) (F5 ?_ (b4n _) e2 hy (S.lst' e2));have:∀(H':Hp) (ms:List Int),DenAll X.K H' (ms.map V.int) (ms.map ay):=by
   intro H' ms
   induction ms with
   |nil=>exact denAll_nil
   |cons n ms ih=>exact denAll_cons den_int ih
  exact this _ _
 ·rw[aI c]at g3;cases g3
end
end VS
namespace VS
open PySem PySem.Spec L2
section
variable {X:Cx}{M:List Md}{a b:Expr}{fa fb:EvE}{ca cb:Cat}{pos p:ff}
def b4L:OpR X (eL .Add) (λx y H Q=>∃a b ys,x=.ref a∧y=.ref b∧SqT X.K H a []∧SqT X.K H b ys∧Q (.ref b) H):=by
 intro pins s σ H x y v u Q I rx ry h;obtain⟨a,b,ys,rfl,rfl,ha,hb,q⟩:=h;cases rx
 cases ry
 obtain⟨cJ,r1,p1,_⟩:=I.tuple ha;obtain⟨qQ,r2,p2,_⟩:=I.tuple hb;cases r1
 obtain⟨⟨cls,dd,data,sl⟩,ho,hc,n,hd⟩:=id p1;obtain⟨⟨zg,wY,data2,wm⟩,sS,md,n2,hd2⟩:=id p2;simp only at hc hd md hd2;subst hc hd md hd2;exact EV ⟨_,ho,rfl⟩ ⟨_,sS,rfl⟩ qP xt kB kg (jR _ _) (PyProof.Rows.tuple_addW0 a b _ _ n n2 dd wY sl wm (by simp)) ⟨ho,sS,⟨.ref b,H,I,rfl,q⟩⟩
def a8B:D→D→Option D
 |.tuple [],.tuple es=>W9 (.tuple es)
 |x,y=>b1F x y
def a8C(ha:PX X M a fa ca)(hb:PX X M b fb cb):PX X M (.BinOp a .Add b pos) (e2 a8B fa fb) (.new .i):=by
 obtain⟨ta,pa,qa⟩:=ha.out;obtain⟨tb,pb,qb⟩:=hb.out;have Cd:OpR X (eL .Add) (λx y H Q=>(∃a b ys,x=V.ref a∧y=V.ref b∧SqT X.K H a []∧SqT X.K H b ys∧Q (.ref b) H)∨b5t X.K x y H Q):=λpins s σ H x y v u Q I rx ry h=>h.elim (λh=>b4L pins s σ H x y v u Q I rx ry h) λh=>b3I pins s σ H x y v u Q I rx ry h
 refine .mk ⟨_,b0T Cd pa pb,λρ σ H P F d Q S hf q=>?_⟩;obtain⟨x,y,h1,h2,h3⟩:=A6 hf;refine qa ρ σ H P F _ _ S h1 λv H1 e1 r1=>qb ρ σ H1 P F _ _ (S.grow e1) h2 λw H2 e2 r2=>?_
 by_cases c:∃es,x=.tuple []∧y=.tuple es
 ·obtain⟨es,rfl,rfl⟩:=c;obtain⟨rfl,hi⟩:=N8 (show W9 (.tuple es)=el d from h3);obtain⟨pp,xs,rfl,k1,k2⟩:=(r1.den.up e2).tup_inv;obtain⟨qq,ys,rfl,j1,j2⟩:=r2.den.tup_inv;cases k2.nil_inv
  exact .inl ⟨pp,qq,ys,rfl,rfl,k1,j1,q _ _ (e1.trans e2) (D8 hi (den_tup j1 j2) (S.lst' (e1.trans e2)))⟩
 ·have tK:b1F x y=el d:=by
   unfold a8B at h3
   split at h3
   ·exact absurd ⟨_,rfl,rfl⟩ c
   ·exact h3
  obtain⟨ds,es,rfl,rfl,gj,hl,rfl,hi⟩:=a7h tK;obtain⟨pp,xs,rfl,k1,k2⟩:=(r1.den.up e2).tup_inv;obtain⟨qq,ys,rfl,j1,j2⟩:=r2.den.tup_inv;have xl:=k2.length;have yl:=j2.length;refine .inr ⟨pp,qq,xs,ys,rfl,rfl,k1,j1,λz=>gj (fO.mp (by rw[←xl,z];rfl)),by rw[xl,yl,cQ];lia,λz=>?_,λ_ z hz=>?_⟩
  ·have:es=[]:=fO.mp (by rw[←yl,z];rfl);subst this;rw[bE]at hi q;exact q _ _ (e1.trans e2) (D8 hi (den_tup k1 k2) (S.lst' (e1.trans e2)))
  ·exact q _ _ ((e1.trans e2).trans (k6 hz _)) (D8 hi (a2f (k2.append j2) hz) (S.lst' ((e1.trans e2).trans (k6 hz _))))
end
end VS
namespace VS
open PySem PySem.Spec
section
variable {prog:br}{w:bL}{A:bD}{E:ah→ai→Prop}{sh:ai}{o:au}{rows:Array eA}{ep:Nat}
theorem a3U:∀(l:List α),(∀e∈l,∀Q':ForInStep PUnit→ai→Prop,Q' (.yield ⟨⟩) sh→aC (aV prog w) A (f e ⟨⟩) Q' E sh)→∀Q:PUnit→ai→Prop,Q ⟨⟩ sh→aC (aV prog w) A (forIn l kC f) Q E sh
 |[],_,Q,q=>by rw[jB];exact ae q
 |e::l,h,Q,q=>by
  rw[iX];exact ab (h e aj _ (a3U l (λx hx=>h x (aq _ hx)) Q q))
def a6a{id:String}{u:fD}{Q:Array eA→ai→Prop}(hu:sh.heap.get? o=el u)(nU:u.data=.dict rows ep)(jg:∀e∈rows,∃b,e.key=.ref b∧sh.TypeIs (.ref b) "tuple")(hd:∀e∈rows,¬ (rows.filter (·.hash==e.hash)).size>1)(q:Q rows sh) :
  aC (aV prog w) A (tU id o) Q E sh:=by
 unfold tU;refine ab (cC hu nU ?_);refine ab ?_;rw[←mz];refine a3U rows.toList (λe he Q' q'=>?_) _ (ae q);obtain⟨b,hb,hT⟩:=jg e (dM.mp he);rw[hb];unfold Builtin.Dict.quietEq
 dsimp only
 refine ab (ab (dy hT F.slot_tuple_eq.lookup (ae ?_)));refine ej (λ_=>ej (λc=>absurd c (hd e (dM.mp he))) λ_=>ae q') λ_=>ae q'
def b0j(sd:d≠o)(h0:(o==cR)=false)(hm:sh.heap.RawDict o rows ep)(yJ:sh.heap.RawDict d #[] 0)(gj:rows.size≠0)(jg:∀e∈rows,∃b,e.key=.ref b∧sh.TypeIs (.ref b) "tuple")(hd:∀e∈rows,¬ (rows.filter (·.hash==e.hash)).size>1)(hz:rows.size≤aS)
  (q:∀h',h'.RawDict d rows 1→cE d sh.heap h'→Q () {sh with heap:=h'}):aC (aV prog w) A (iS nm d o) Q E sh:=by
 obtain⟨u,hu,FC,nU⟩:=id hm;obtain⟨v,hv,CK,wz⟩:=id yJ;unfold iS;rw[aI (by simpa using sd)]
 dsimp only
 unfold jd;rw[aI (by rw[h0];exact aQ)];refine ab (ae (ab (cC hu nU ?_)));have EB:(decide (rows.size≤8)&&rows.all λe=>(keyPart e.key).isSome)=false:=by
  rw[Bool.and_eq_false_iff];refine .inr ?_;rw[Array.all_eq_false];obtain⟨b,hb,_⟩:=jg rows[0] (Array.getElem_mem _);exact⟨0,by lia,by rw[hb];simp[keyPart]⟩
 rw[EB,aB (show (!false)=true from rfl)];refine ab (cC hv wz ?_);rw[aB (show (#[]:Array eA).isEmpty=true from rfl)];refine ab (a6a hu nU jg hd ?_);rw[aB (by simpa[Array.isEmpty]using gj)];refine ab (wpAny_updateDictKeysTo hv wz (ae (q _ ⟨_,bT _ hv (ib (gR wz _)),CK.mapDictKeys _,gR wz _⟩ (bQ ..))) (nh hz))
def a2F(h0:(o==cR)=false)(hm:sh.heap.RawDict o rows ep)(gj:rows.size≠0)(jg:∀e∈rows,∃b,e.key=.ref b∧sh.TypeIs (.ref b) "tuple")(hd:∀e∈rows,¬ (rows.filter (·.hash==e.hash)).size>1)(hz:rows.size≤aS)
  (q:∀h',h'.RawDict sh.heap.objs.size rows 1→(∀b u,sh.heap.get? b=el u→h'.get? b=el u)→Q (.ref sh.heap.objs.size) {sh with heap:=h'}):aC (aV prog w) A (call (.type "dict") [.ref o]) Q E sh:=by
 refine vX (Q₁:=λv s1=>v=.ref sh.heap.objs.size∧s1={sh with heap:=sh.heap.push {cls:=.type "dict",data:=.dict #[]}}) F.kt_called_dict (F.kt_typeCall_dict_1 _) F.entry_dict_init (kt_code_dict_new _ ⟨rfl,rfl⟩) ?_;rintro v s1 ⟨rfl,rfl⟩;have hn:(sh.heap.push {cls:=.type "dict",data:=.dict #[]}).RawDict sh.heap.objs.size #[] 0:=⟨_,aE _ rfl,⟨rfl,rfl,rfl⟩,rfl⟩;have ho:(sh.heap.push {cls:=.type "dict",data:=.dict #[]}).RawDict o rows ep:=hm.at λ_ e=>af _ e
 have vE:kS {sh with heap:=sh.heap.push {cls:=.type "dict",data:=.dict #[]}} (.ref sh.heap.objs.size) "dict":=Heap.RawDict.typeIs (sh:={sh with heap:=sh.heap.push {cls:=.type "dict",data:=.dict #[]}}) hn;have tI:kS {sh with heap:=sh.heap.push {cls:=.type "dict",data:=.dict #[]}} (.ref o) "dict":=Heap.RawDict.typeIs (sh:={sh with heap:=sh.heap.push {cls:=.type "dict",data:=.dict #[]}}) ho;have sd:sh.heap.objs.size≠o:=by
  obtain⟨_,hg,_⟩:=hm;exact λe=>absurd (aG hg) (by rw[e];exact dt _)
 refine⟨vE,F.args_dict_init_2 _ _,?_⟩;unfold Builtin.«dict.__init__» kU;refine ab (ab (fG vE (show aC _ _ (pure (sh.heap.objs.size,[aW o])) _ _ _ from ae ?_)));show aC _ _ (eV "dict.__init__" sh.heap.objs.size (aW o) [] bz) _ _ _;unfold eV Builtin.Dict.merge xc;refine ab (gY tI ?_);rw[aI (by decide)];refine ab (ab (ab (fu tI isSubtype_dict_dict ?_)));simp only[iK,cg,dX];refine ab (dy tI rG.lookup (ae ?_));simp only[fL,gT];refine ab (ae ?_);refine b0j sd h0 ho hn gj (λe he=>let⟨b,hb,u,hu,hc⟩:=jg e he;⟨b,hb,u,af _ hu,hc⟩) hd hz λh' hr sb=>?_
 show aC _ _ (zp sh.heap.objs.size [] >>= λ_=>_) _ _ _;exact ab (ae (ae ⟨rfl,q h' hr λb u e=>sb.extBut b u (a_ (aG e)) (af _ e)⟩))
end
end VS
namespace VS
open PySem PySem.Spec L2
theorem a3V{f:α→Int}:∀{l:List α},(l.map f).Nodup→∀e∈l,(l.filter λx=>f x==f e).length≤1
 |a::l,h,e,he=>by
  rw[aA,bt]at h;have none_of:∀y,y∉l.map f→(l.filter λx=>f x==y)=[]:=λy hy=>fU.mpr λx hx c=>hy (aY.mpr ⟨x,hx,ku.mp c⟩)
  rcases az.mp he with z|z
  ·subst z;rw[Fj,none_of _ h.1]
   split<;>simp
  ·rw[Fj];have gj:(f a==f e)=false:=gJ.mpr λc=>h.1 (by rw[c];exact aY.mpr ⟨e,z,rfl⟩)
   rw[gj];exact a3V h.2 e z
section
variable {X:Cx}
def a6b:CallR X (.type "dict") (λxs H Q=>∃p es,xs=[V.ref p]∧H p=el (c6 p es)∧es≠[]∧C2 es=true∧(∀e∈es,∃b ys,e.2.1=.ref b∧SqT X.K H b ys)∧(es.map λe=>hashD e.1).Nodup∧∀z,H z=p4→Q (.ref z) (upd H z (c6 z es))):=by
 intro pins s σ H xs us Q I rv h;obtain⟨p,es,rfl,hH,gj,hL,hk,hn,q⟩:=h;obtain⟨u,rfl,rx⟩:=vals1 rv;cases (show u=aW p from rx)
 obtain⟨h0,hl,jl,o,ents,ep,g1,g2,g3,g4⟩:=m8 I hH;have hsz:ents.size=es.length:=by rw[cM g4];exact bW.symm
 have ko:∀{es:List (D×V×V)} {l:List eA},eO K2 es l→∀x∈l,∃e∈es,K2 e x:=by
  intro es l h
  induction h with
  |nil=>intro x hx;cases hx
  |cons r _ ih=>
   intro x hx;rcases az.mp hx with z|z
   ·subst z;exact⟨_,aj,r⟩
   ·obtain⟨e,he,r'⟩:=ih x z;exact⟨e,aq _ he,r'⟩
 have vp:∀{es:List (D×V×V)} {l:List eA},eO K2 es l→l.map (·.hash)=es.map λe=>hashD e.1:=by
  intro es l h
  induction h with
  |nil=>rfl
  |cons r _ ih=>rw[aA,aA,ih,r.1]
 refine a2F (rows:=ents) h0 ⟨o,g1,g2,g3⟩ (by rw[hsz];exact λz=>gj (fO.mp z)) (λx hx=>?_) (λx hx=>?_) (by rw[hsz];exact hl) λh' hr yu=>?_
 ·obtain⟨e,he,r⟩:=ko g4 x (dM.mpr hx);obtain⟨b,ys,e1,e2⟩:=hk e he;have r2:=r.2.1;rw[e1]at r2;obtain⟨cJ,_,⟨ob,ho,hc,_⟩,_⟩:=I.tuple e2;exact⟨b,r2,ob,ho,hc⟩
 ·have z:=a3V (f:=λx:eA=>x.hash) (l:=ents.toList) (by rw[vp g4];exact hn) x (dM.mpr hx);rw[←Array.toList_filter,bW]at z;lia
 ·obtain⟨o',b1,b2,b3⟩:=hr;have oG:H s.heap.objs.size=p4:=I.hok.fresh (aD _);have CP:(s.heap.objs.size==cR)=false:=gJ.mpr (dN (a_ I.sysBelow));exact⟨.ref s.heap.objs.size,_,I.laid (a:=s.heap.objs.size) (o:=c6 s.heap.objs.size es) (t':=s.toks) yu (aD _) (V5 CP hl jl b1 b2 b3 (λz=>by rw[hL]at z;cases z) g4),rfl,q _ oG⟩
end
def E4(kvs:List (D×D)):Bool:=keysOk true kvs&&(!kvs.isEmpty&&(K3 (kvs.map (·.1))&&decide (kvs.map λp=>hashD p.1).Nodup))
noncomputable def a4Y(a:EvE):EvE:=λρ=>(a ρ).bind λd=>match d with
 |.dict kvs=>if E4 kvs then el (.dict kvs) else p4
 |_=>p4
theorem a6c:∀l:List (α×β),(l.map (·.1)).zip (l.map (·.2))=l
 |[]=>rfl
 |x::l=>by rw[aA,aA,dZ,a6c l]
section
variable {X:Cx}{M:List Md}{a:Expr}{fa:EvE}{ca:Cat}{pos p:ff}
def b0k(hm:X.mg "dict"=p4)(ha:PX X M a fa ca)(hc:frozen ca:=by trivial)(hg:Gl X "dict":=by rfl)(he:aw [a] X.env=(false,cy a X.env)::aw [] X.env:=by rfl)(fJ:(cx pos (aw [] X.env)).any (·.1)=false:=by rfl) :
  PX X M (.Call (.Name "dict" p) [a] [] pos) (a4Y fa) (.new (.d true .f)):=by
 obtain⟨ta,pa,qa⟩:=ha.out;refine .mk ⟨_,J7 a6b hg hm PyProof.Rows.Boot.«dict» (l5 pa p0 he) (by decide) (by decide) he fJ,λρ σ H P F d Q S hf q=>?_⟩;obtain⟨x,h1,g1⟩:=bnd hf;cases x with
 |dict kvs=>
  by_cases c:E4 kvs=true
  ·have g2:(if E4 kvs then el (ba.dict kvs) else p4)=el d:=g1;rw[aB c]at g2;cases g2
   simp only[E4,av,bU]at c;obtain⟨c1,c2,c3,c4⟩:=c;refine qa ρ σ H P F _ _ S h1 λv H1 e1 r1=>?_
   obtain⟨aa,es,rfl,k1,k2⟩:=(B5 hc r1).dict_inv;have kk:=k2.keys;have kd:=k2.kden;have ky:∀e∈es,keyOk true e.1:=λe he=>by
    have:e.1∈kvs.map (·.1):=by rw[←kk];exact aY.mpr ⟨e,he,rfl⟩
    obtain⟨pp,hp,e2⟩:=aY.mp this;rw[←e2];exact v5 (bj.mp c1 pp hp)
   refine⟨aa,es,rfl,i7 _ _ k1,λz=>?_,by rw[C2,kk];exact c3,λe he=>?_,?_,λz hz=>?_⟩
   ·rw[z]at kk;cases kvs with
    |nil=>simp at c2
    |cons _ _=>cases kk
   ·obtain⟨ds,yH⟩:=(ky e he).2.2.1 rfl;have dd:=kd e he;rw[yH]at dd;obtain⟨b,xs,e2,e3,_⟩:=(dd.up i7).tup_inv;exact⟨b,xs,e2,e3⟩
   ·rw[show (es.map λe=>hashD e.1)=kvs.map λp=>hashD p.1 by
     have:=fC (List.map hashD) kk
     rwa[bO,bO]at this]
    exact c4
   ·have hs:Same (cut H1 F) (cut (upd H1 z (c6 z es)) ([z]++F)):=λb y hy=>by
     obtain⟨n1,n2⟩:=o6 hy;have hb:b≠z:=λw=>by rw[w,hz]at n2;cases n2
     refine j5 (λw=>?_) (by rw[f7 hb];exact n2);rcases aF.mp w with w|w
     ·exact hb (ao.mp w)
     ·exact n1 w
    refine q _ _ (e1.trans (k6 hz _)) ⟨[z],?_,bt.mpr ⟨λw=>(nomatch w),bA⟩,λb hb=>?_⟩
    ·simp only[Own];refine⟨z,es,kvs.map (·.2),[],rfl,i6,by rw[kk,a6c],rfl,⟨?_,λe he=>⟨ky e he,(kd e he).up hs⟩⟩,ListAll.of_den (k2.vals.up hs) λv d _ q=>⟨rfl,q⟩⟩;rw[kk];have c5:=c4;rw[List.Nodup,nk]at c5 ⊢;exact c5.imp λh e=>h (by rw[e])
    ·rw[ao.mp hb];cases hH:H z with
     |none=>rfl
     |some y=>rw[e1 _ _ hH]at hz;cases hz
  ·have g2:(if E4 kvs then el (ba.dict kvs) else p4)=el d:=g1;rw[aI c]at g2;cases g2
 |_=>cases g1
end
section
variable {X:Cx}{M:List Md}{e:Expr}{f:EvE}{u:Ty}{kt:Bool}
def a8D(h:PX X M e f (.new (.d kt u))):PX X M e f (.new (.d kt .f)):=h.imp λK H H' F v d hF _ ⟨fp,o,n,z⟩=>by
 simp only[Own]at o;obtain⟨a,es,ds,fs,rfl,ha,rfl,rfl,⟨k1,k2⟩,la⟩:=o;have jf:∀b∈[a]++F,b∈(a::fs)++F:=λb hb=>by
  rcases aF.mp hb with y|y
  ·rw[ao.mp y];simp
  ·exact ax _ y
 have sP:∀b∈fs,b∉[a]++F:=λb hb y=>by
  rcases aF.mp y with y|y
  ·rw[ao.mp y]at hb;exact (bt.mp n).1 hb
  ·obtain⟨ys,q⟩:=hF b y;rw[z b (aq _ hb)]at q;cases q
 have key:∀{ds:List D} {xs:List V} {gs:List au},ListAll (Own K H' ((a::fs)++F) u) xs ds gs→(∀b∈gs,b∈fs)→ListAll (Own K H' ([a]++F) .f) xs ds []:=by
  intro ds
  induction ds with
  |nil=>intro xs gs l _;obtain⟨rfl,rfl⟩:=l.nil_inv;exact m3
  |cons d ds ih=>
   intro xs gs l hs;obtain⟨v,r,f,g,rfl,rfl,l1,l2⟩:=l.cons_inv;exact k9 (f:=[]) (g:=[]) (l1.freeze jf λb hb=>sP b (hs b (aL _ hb))) (ih l2 λb hb=>hs b (ax _ hb))
 exact⟨[a],by simp only[Own];exact⟨a,es,ds,[],rfl,ha,rfl,rfl,⟨k1,λe he=>⟨(k2 e he).1,(k2 e he).2.up (D7 jf)⟩⟩,key la λ_ y=>y⟩,by simp,λb hb=>z b (by rw[ao.mp hb];exact aj)⟩
end
section
variable {X:Cx}{M ML M':List Md}{e:Expr}{f:EvE}{pos:ff}
def b4M(hM:M.map frz=M)(he:PX X M e f .tmp):PSX X .f ML M (.Return (el e) pos) (n5 f) M':=by
 obtain⟨te,pe,qe⟩:=he.out;refine .mk ⟨_,b0O pe,λD ρ σ H P F o S hg k=>?_⟩;obtain⟨d,h1,g1⟩:=bnd hg;cases g1
 have S0:=S.free hM;refine qe ρ σ H P [] d _ S0.toE h1 λv H1 e1 hd=>?_
 refine k v H1 [] (by simp only[Own];exact⟨trivial,(show Den X.K H1 v d from hd).up λa x ha=>j5 (by simp) ha⟩) bA (λa ha=>(nomatch ha)) ((S0.prot.trans i7).trans e1)
end
section
variable {X:Cx}{M:List Md}{e0:Expr}{es:List Expr}{f:EvA}{uf:Ty}{x:bC}{p pos jI:ff}{params:lH}{body:Expr}{scope:fZ}{ys:List bC}{js:List Nat}
def a6d{ps pl N:List bC}{us:List Ty} 
  (W:Has X.prog X.w X.K X.mg X.base x k ps (spL X.K n (λgm=>FnV X.prog X.w X.K X.mg X.base (kf+1) pl.length uf gm) m .f)) (hr:Room k X.A) (h:PAL X M (e0::es) f λH v=>∃fa,v=.ref fa∧LamO q params body scope (N3 scope X.env) H fa)
  (tD:a8w X (N3 scope X.env) ys js) (hM:b7D M js) (S:LamScope N pl ys scope (N3 scope X.env)) (mO:us.length=pl.length)
  (mT:∀(pm:ah) (c:au) (lS:ah) (us:List ah),us.length=pl.length→pW (PySem.W.kla_fn "<lambda>" q params body scope (N3 scope X.env) pm (.ref c) lS) ⟨us,[]⟩=pure (pl.zip us))
  (hb:∀(fa c:au) (A:bD) (outer:List n_) (s:ai) (H:Hp),Room kf (A.deeper (jj q scope s.heap.objs.size fa (.ref c) (N3 scope X.env)))→PX (a8v X.prog X.w X.K X.mg X.base N q scope fa (.ref c) (N3 scope X.env) A outer s H) (us.map .own++aO ys.length (.own .f)) body fb (.new uf))
  (hfl:∀ρ ds,f ρ=el ds→ds.length=n) (nM:∀x,X.fn x=true:=by exact λ_=>rfl)
  (hg:Gl X x:=by rfl) (kM:(x==("__debug__":bC))=false:=by decide) (he:aw (e0::es) X.env=(false,cy e0 X.env)::aw es X.env:=by rfl) (fJ:(cx pos (aw es X.env)).any (·.1)=false:=by rfl) :
  PX X M (.Call (.Name x p) (e0::es) [] pos) (b4F m us js fb f) .tmp:=by
 obtain⟨t,pa,qa⟩:=h;obtain⟨FW,fd,F,b,kp,Co⟩:=W.ex;refine .mk ⟨_,b2i F hr hg Co kp b pa tD (b4D nM) kM he fJ,λρ σ H P F d Q S' hf q=>?_⟩;obtain⟨ds,h1,hf⟩:=bnd hf;refine qa ρ σ H P F ds _ S' h1 λvs v H1 e1 r1 ⟨fa,hv,L⟩=>?_
 subst hv;obtain⟨kX,c1,c2⟩:=a8x (S'.grow e1) hM;refine⟨kX,c1,λH2 C sX s2 ci EW J2 o2 n2=>?_⟩;refine⟨vs,.ref fa,_,ds,d,rfl,by rw[r1.length];exact hfl ρ ds h1,r1.up s2,λH' e'=>b4B (L.up (s2.trans e')) S sX (ci.up e') (λy c z=>let⟨ob,uo,w1,w2⟩:=EW y c z;⟨ob,uo,e' _ _ w1,w2⟩) (c2.up (s2.trans e')) mO mT (hb fa),hf,λv H' fp e o nd fr J'=>?_⟩;have sm:Same H1 (VS.cut H' C):=λb o' hb=>j5 (λz=>by rw[n2 b z]at hb;cases hb) (e _ _ (s2 _ _ hb))
 exact q v (VS.cut H' C) (e1.trans sm) ((o.junk J' .f).den .f)
end
def Iti(a:au)(es:List (D×V×V)):It:=
 ⟨λi H=>H a=el (c6 a es)∧i<es.length,λi H x H'=>∃T e,H T=p4∧H'=upd H T (.tup [e.2.1,e.2.2])∧x=.ref T∧es[i]?=el e,λi H=>H a=el (c6 a es)∧es.length≤i⟩
def a2G{es:List (D×V×V)}(hk:y8 es):C2 es=false:=by
 cases es with
 |nil=>rfl
 |cons e es=>
  obtain⟨n,e1,_⟩:=hk e aj;show K3 (e.1::es.map (·.1))=false;rw[e1];rfl
def D3{X:Cx}{pins:List (au×fD)}{σ:L2.St}{H:Hp}{s:ai}{d:au}{es:List (D×V×V)}(I:Inv X pins σ H s)(hH:H d=el (c6 d es))(hk:y8 es) :
  ∃kvs,s.heap.DictAt (dh X.prog X.w) d kvs es.length∧(d==cR)=false∧eO EKv es kvs∧kvs.length=es.length:=by
 obtain⟨kvs,ep,jr,h0,_,hp⟩:=Y9 I hH hk;have he:ep=es.length:=by
  obtain⟨o,ents,g1,g2,g3,_⟩:=id jr;exact a2o I hH g1 g3 (a2G hk)
 subst he;exact⟨kvs,jr,h0,hp,(cM hp).symm⟩
def a7B{P:br}{w:bL}{K:ag}{elts:List Expr}{kk:Nat}{iz:ff}(a it:au)(es:List (D×V×V))(hk:y8 es):Turn P w K (.Tuple elts kk iz) (Iti a es) [it] it (λi h=>∃ok ov,IsItemIter h it a i es.length es.length ok ov) where
 mem:=by simp
 obj:=λi h st b hb=>by
  obtain⟨ok,ov,he⟩:=st;cases ao.mp hb
  exact⟨_,he,λv z=>by cases z⟩
 keep:=λi h h' st k=>by
  obtain⟨ok,ov,he⟩:=st;exact⟨ok,ov,k it (by simp) _ he⟩
 item:=by
  intro X hP hw hK hc i pins s σ H E I hf st hg;subst hP hw hK;obtain⟨hH,hi⟩:=hg;obtain⟨kvs,jr,h0,hp,hlen⟩:=D3 I hH hk;obtain⟨ok,ov,he⟩:=st;have hx:es[i]?=el es[i]:=ak hi;obtain⟨⟨n,v⟩,yt,g⟩:=A4 hp hx;rw[←hlen]at he jr;refine wpAny_pyNext_items_item (knd:=dh X.prog X.w) he jr yt λkey h' jg pI sM hsz keep=>⟨.ref s.heap.objs.size,rfl,wpAny_letOwnedTupleGo_items (s:={s with heap:=h'}) pI λh2 nu zC=>?_⟩
  have hn:H s.heap.objs.size=p4:=I.hok.fresh (aD _);have AJ:s.heap.objs.size≠it:=dQ (aG he);obtain⟨t,rfl⟩:=ah.isInt_shape jg;have new:ObjOk X.prog X.w (upd H s.heap.objs.size (.tup [es[i].2.1,es[i].2.2])) h2 s.heap.objs.size (.tup [es[i].2.1,es[i].2.2]):=
   ⟨by rw[cQ];show 2≤_;decide,[.int n t,v],.cons (by rw[g.2.1];exact⟨t,rfl⟩) (.cons g.2.2 .nil),_,zC.extBut _ _ AJ sM,rfl,_,rfl⟩
  refine⟨.ref s.heap.objs.size,upd H s.heap.objs.size (.tup [es[i].2.1,es[i].2.2]),a8p (s:=s) (t':=s.toks) (ch:=[it]) I (λb o hb q=>zC.extBut b o (by simpa using hb) (keep b o (by simpa using hb) q)) hf (aD _) new,rfl,⟨_,es[i],hn,rfl,rfl,hx⟩,⟨_,_,by rw[hlen]at nu;exact nu⟩,λb hb=>?_⟩;rw[f7 (λz=>AJ (by rw[←z];exact ao.mp hb))];exact (hf b hb).1
 done:=by
  intro X hP hw hK hc i pins s σ H E I hf st hg;subst hP hw hK;obtain⟨hH,hi⟩:=hg;obtain⟨kvs,jr,h0,hp,hlen⟩:=D3 I hH hk;obtain⟨ok,ov,he⟩:=st;rw[←hlen]at he jr;exact wpAny_pyNext_items_end (knd:=dh X.prog X.w) (I.ok.hd hc) he jr (dY (by lia)) λh' hx=>⟨rfl,a1M (t':=s.toks) (ch:=[it]) I (λb o hb y=>hx b o (by simpa using hb) y) hf⟩
 self:=λ_ _ _ _ _ st h=>by
  obtain⟨ok,ov,he⟩:=st;exact PySem.W.kcp_self he h
section
variable {X:Cx}{M ML:List Md}{o iter:Expr}{elts:List Expr}{kk:Nat}{iz apos cH pos:ff}{fa:EvE}{ca:Cat}{u:Ty}{body:List gM}{g:EvS}
def c0C(to:TE):TI:=λσ H R=>to σ H λx H1=>∃p es,x=.ref p∧H1 p=el (c6 p es)∧y8 es∧R (Iti p es) H1
def b2x{to:TE}(ho:PE X o to)(eK:dc o "items" X.env (cy o X.env)=cy o X.env:=by rfl)(eJ:(apos.endLine==cH.line)=true:=by rfl):PI X (.Tuple elts kk iz) (.Call (.Attribute o "items" apos) [] [] cH) (c0C to):=by
 intro pins s σ H R I h;refine ir eK eJ (L2.thn (ho pins s σ H _ I h) λv s1 ⟨x,H1,I1,r1,p,es,ex,hH,hk,q1⟩=>?_);subst ex;obtain rfl:v=aW p:=r1;obtain⟨kvs,jr,h0,hp,hlen⟩:=D3 I1 hH hk;refine⟨"dict","dict.items",h_,sx,PySem.F.type_dict_items,j6 I1 hH,J4 I1 hH,fg rfl (ja ?_)⟩;refine EX sx (j6 I1 hH) PySem.F.entry_dict_items (PySem.F.args_dict_items_1 _) (meets_dict_items (dh X.prog X.w) p h0) ⟨⟨kvs,jr.dictOf⟩,?_⟩;refine wpAny_pyIter_items (knd:=dh X.prog X.w) ⟨_,aE _ rfl,rfl,rfl⟩ (jr.at λ_ e=>af _ e) ?_;have hz:(s1.heap.push {cls:=.type "dict_items",data:=.fields #[.ref p]}).objs.size=s1.heap.objs.size+1:=cL ..;refine⟨_,[_],_,_,H1,rfl,I1.kept (t':=s1.toks) λb o e=>af _ (af _ e),a7B p _ es hk,⟨.none,.none,by rw[←hlen];exact aE _ rfl⟩,λb hb=>?_,q1⟩;have e:=ao.mp hb;have kn:s1.heap.objs.size≤b:=by rw[e,hz];exact eU _
 exact I1.fpOk kn (I1.hok.fresh kn)
end
def a2H(p:D×D):D:=.tuple [p.1,p.2]
noncomputable def iIt(a:EvE):EvA:=λρ=>(a ρ).bind λd=>match d with
 |.dict kvs=>if keysOk false kvs then el (kvs.map a2H) else p4
 |_=>p4
def a1z{K:ag}{H:Hp}:∀{kvs:List (D×D)} {es:List (D×V×V)},DenKV K H es kvs→keysOk false kvs=true→y8 es:=λ{kvs es} h hk e he=>by
 have hd:=h.kden e he;have hm:e.1∈kvs.map (·.1):=by rw[←h.keys];exact bG he
 obtain⟨p,hp,yb⟩:=aY.mp hm;have h2:m9 false p.1=true:=bj.mp hk p hp;rw[yb]at h2;cases hx:e.1 with
 |int n=>rw[hx]at hd;exact⟨n,rfl,by simpa only [Den]using hd⟩
 |_=>rw[hx]at h2;simp[m9]at h2
section
variable {X:Cx}{M ML:List Md}{o iter:Expr}{elts:List Expr}{kk:Nat}{iz apos cH pos:ff}{fa:EvE}{ca:Cat}{u:Ty}{body:List gM}{g:EvS}
noncomputable def b9k(X:Cx)(M:List Md)(tg iter:Expr)(f:EvE):Prop:=
 ∃wi,PI X tg iter wi∧∀(ρ:List D) (σ:L2.St) (H P:Hp) (F:List au) (kvs:List (D×D)) (R:It→Hp→Prop),StE X.K M ρ σ H P F→f ρ=el (.dict kvs)→keysOk false kvs=true→
  (∀a es H1,Same H H1→(∀H2,Same (cut H1 F) H2→H2 a=el (c6 a es))→DenKV X.K (cut H1 F) es kvs→R (Iti a es) H1)→wi σ H R
def c0D(h:PX X M o fa ca)(hc:frozen ca:=by trivial)(eK:dc o "items" X.env (cy o X.env)=cy o X.env:=by rfl)(eJ:(apos.endLine==cH.line)=true:=by rfl):b9k X M (.Tuple elts kk iz) (.Call (.Attribute o "items" apos) [] [] cH) fa:=by
 obtain⟨t,p,q⟩:=h.out;refine⟨_,b2x p eK eJ,λρ σ H P F kvs R S hf hk k=>?_⟩;refine q ρ σ H P F _ _ S hf λv H1 e1 r1=>?_
 obtain⟨aa,es,rfl,k1,k2⟩:=(B5 hc r1).dict_inv;exact⟨aa,es,rfl,i7 _ _ k1,a1z k2 hk,k _ es H1 e1 (λH2 e2=>e2 _ _ k1) k2⟩
def b0l{K:ag}{H:Hp}{kvs:List (D×D)}{es:List (D×V×V)}(h:DenKV K H es kvs){i:Nat}{e:D×V×V}(he:es[i]?=el e):∃p,kvs[i]?=el p∧Den K H e.2.1 p.1∧Den K H e.2.2 p.2:=by
 have h1:=h.kden e (bo he);have h2:(es.map (·.1))[i]?=el e.1:=by rw[aU,he];rfl
 rw[h.keys,aU]at h2;obtain⟨p,hp,yb⟩:=cS.mp h2;obtain⟨d,hd,ti⟩:=h.vals.getV (show (es.map (·.2.2))[i]?=el e.2.2 by rw[aU,he];rfl);rw[aU,hp]at hd;cases hd
 exact⟨p,hp,by rw[yb];exact h1,ti⟩
def b2y{fi:EvA}{tg:Expr}{MB:List Md}{gt:TG}{set:List D→D→Option (List D)}{m:D→Prop}(hc:X.calm=true)(hp:nD (aV X.prog X.w) X.A X.env X.xe)(hi:b9k X M tg iter fa)(hg:PG X tg gt)(hs:a9s X.K M MB gt set m)(hm:∀ρ ds,fi ρ=el ds→∀d∈ds,m d)(vt:∀{ρ ps},fi ρ=el ps→iIt fa ρ=el ps)(hb:PSsX X u M MB body g M)
  (hf:∀x,eS iter X.env x=pure x:=by intro _;rfl):PSX X u ML M (.For tg iter body [] pos) (E1 fi set g) M:=by
 obtain⟨wi,pi,qi⟩:=hi;obtain⟨tb,pb,qb⟩:=hb.out;refine .mk ⟨_,a6I hp hc pi hg pb hf,λD ρ σ H P F o S sY k=>?_⟩;obtain⟨ps,h1,g1⟩:=bnd sY;obtain⟨d0,h2,g2⟩:=bnd (vt h1);obtain⟨kvs,rfl⟩:∃kvs,d0=.dict kvs:=by
  cases d0 with
  |dict kvs=>exact⟨kvs,rfl⟩
  |_=>cases g2
 have g3:(if keysOk false kvs=true then el (kvs.map a2H) else p4)=el ps:=g2;have hk:keysOk false kvs=true:=by
  by_cases c:keysOk false kvs=true
  ·exact c
  ·rw[aI c]at g3;cases g3
 rw[aB hk]at g3;have rV:kvs.map a2H=ps:=aK g3;refine qi ρ σ H P F kvs _ S.toE h2 hk λa es H1 e1 sO hx=>?_
 have S1:=S.grow e1;have qS:es.length=kvs.length:=by have:=fC iQ hx.keys;simpa using this
 have fJ:ps.length=es.length:=by rw[←rV,ar,qS]
 refine⟨λi n σ' H'=>n=es.length-i∧i≤es.length∧∃ρ' F',StR X.K M ρ' σ' H' (cut H1 F) F'∧O1 set g (ps.drop i) ρ'=el o,⟨es.length,by simp,bI _,ρ,F,⟨S1.all,S1.lst,Same.refl _⟩,g1⟩,?_⟩;rintro i n σ' H' ⟨rfl,hi,ρ',F',S',hfl⟩;have kG:Same (cut H1 F) (cut H' F'):=S'.prot;have q:=sO H' (kG.trans i7);by_cases hW:i<es.length
 ·refine .inr ⟨⟨q,hW⟩,λσ2 H2=>∃ρ2 F2,StR X.K M ρ2 σ2 H2 (cut H1 F) F2∧O1 set g (ps.drop (i+1)) ρ2=el o,λσ2 H2 ⟨ρ2,F2,S2,h2⟩=>⟨es.length-(i+1),by lia,rfl,hW,ρ2,F2,S2,h2⟩,λx H2 hy=>?_⟩;obtain⟨T,e,hT,rfl,rfl,he⟩:=hy;have mB:i<ps.length:=by lia
  have lj:ps.drop i=ps[i]::ps.drop (i+1):=fw mB;rw[lj]at hfl;obtain⟨ρ1,sN,g4⟩:=bnd (show (set ρ' ps[i]).bind _=el o from hfl);obtain⟨o1,hg1,g5⟩:=bnd g4;obtain⟨pr,ya,dk,dv⟩:=b0l (DenKV.mono kG _ hx) he;have pE:ps[i]=a2H pr:=by
   have:ps[i]?=el (a2H pr):=by rw[←rV,aU,ya];rfl
   rw[ak mB]at this;exact aK this
  have mU:Same H' (upd H' T (.tup [e.2.1,e.2.2])):=k6 hT _;have S2:=S'.grow mU;have yT:T∉F':=λz=>by
   obtain⟨ys,e⟩:=S'.lst T z;rw[hT]at e;cases e
  have pM:Den X.K (cut (upd H' T (.tup [e.2.1,e.2.2])) F') (.ref T) (a2H pr):=by
   have md:Same (cut H' F') (cut (upd H' T (.tup [e.2.1,e.2.2])) F'):=A2 mU;have jr:cut (upd H' T (.tup [e.2.1,e.2.2])) F' T=el (.tup [e.2.1,e.2.2]):=j5 yT i6;exact den_tup (SqT.of jr) (denAll_cons (dk.up md) (denAll_cons (dv.up md) denAll_nil))
  rw[pE]at sN;refine hs ρ' σ' _ (cut H1 F) F' (.ref T) _ ρ1 _ S2 pM (hm ρ ps h1 _ (by rw[←pE];exact cG mB)) sN λσ3 F3 S3=>qb _ ρ1 σ3 _ (cut H1 F) F3 o1 S3 hg1 ?_
  cases o1 with
  |nx ρ2=>exact λσ4 H4 F4 S4=>⟨ρ2,F4,S4,g5⟩
  |ct ρ2=>exact λσ4 H4 F4 S4=>⟨ρ2,F4,S4,g5⟩
  |bk ρ2=>
   have:o=.nx ρ2:=(aK g5).symm;subst this;exact λσ4 H4 F4 S4=>k σ4 H4 F4 ⟨S4.all,S4.lst,S1.prot.trans S4.prot⟩
  |rt d=>
   have:o=.rt d:=(aK g5).symm;subst this;refine λv H4 fp o nd fr e=>k v H4 fp o nd (λa ha=>?_) (S1.prot.trans e)
   exact S1.prot.free (fr a ha)
 ·have e:i=es.length:=by lia
  subst e;rw[←fJ,kl]at hfl;have:o=.nx ρ':=(aK hfl).symm;subst this;exact .inl ⟨⟨q,aD _⟩,k σ' H' F' ⟨S'.all,S'.lst,S1.prot.trans S'.prot⟩⟩
end
end VS
namespace PySem
open Sem (wp)
section
variable {prog:br}{w:bL}{A:bD}{E:ah→ai→Prop}{s:ai}
def a1A{M:Model}{a:au}{Q:Option fD→ai→Prop}(h:Q (s.heap.get? a) s):aC M A (loadIfAlive a) Q E s:=λ_ _ _=>h
def b2z{t:au}:¬ (aW t==bz)=true:=aQ
def a7C{it t:au}{i:Nat}{vs:Array ah}{x:ah}{Q:ah→ai→Prop}(hit:s.heap.IsTupleIter it t i)(ht:s.heap.IsTuple t vs)(hx:vs[i]?=el x)
  (q:∀h',h'.IsTupleIter it t (i+1)→cE it s.heap h'→Q x {s with heap:=h'}):aC (aV prog w) A (cu (.ref it)) Q E s:=by
 obtain⟨o,ho,hc,hd⟩:=id hit;obtain⟨u,hu,_,n,nU⟩:=ht;unfold cu;refine ab (bK (name:=cm "__next__") hit.typeIs gS (bB gS hit.typeIs ux ?_ (tR _)));show aC _ _ (nW (.ref it) 0 >>= _) _ _ s;refine ab (cP ho hd (x:=.ref t) rfl ?_);show aC _ _ (ite ((aW t==bz)=true) _ _) _ _ s;rw[aI b2z];show aC _ _ (nW (.ref it) 1 >>= _) _ _ s;refine ab (cP ho hd (x:=.int i 0) rfl ?_);show aC _ _ (zB (.ref t) >>= _) _ _ s;refine ab (dI hu nU ?_);simp only[bV,hx];refine ab (eH ho hd (by simp) (ae ⟨x,rfl,ae (q _ ?_ (bQ ..))⟩));exact⟨_,bT _ ho (mv (gh hd _)),(p_ ..).trans hc,by rw[gh hd];simp[cY]⟩
def b0m{it t:au}{i:Nat}{vs:Array ah}{Q:ah→ai→Prop}(hh:A.handled=p4)(hit:s.heap.IsTupleIter it t i)(ht:s.heap.IsTuple t vs)(hx:vs[i]?=p4)
  (q:∀h' e,sD it s.heap h'→(∃o,h'.get? e=el o∧o.cls=.type "StopIteration")→E (.ref e) {s with heap:=h'}):aC (aV prog w) A (cu (.ref it)) Q E s:=by
 obtain⟨o,ho,hc,hd⟩:=id hit;obtain⟨u,hu,_,n,nU⟩:=ht;unfold cu;refine ab (bK (name:=cm "__next__") hit.typeIs gS (bB gS hit.typeIs ux ?_ (tR _)));show aC _ _ (nW (.ref it) 0 >>= _) _ _ s;refine ab (cP ho hd (x:=.ref t) rfl ?_);show aC _ _ (ite ((aW t==bz)=true) _ _) _ _ s;rw[aI b2z];show aC _ _ (nW (.ref it) 1 >>= _) _ _ s;refine ab (cP ho hd (x:=.int i 0) rfl ?_);show aC _ _ (zB (.ref t) >>= _) _ _ s;refine ab (dI hu nU ?_);simp only[bV,hx];refine ab (dW (ab (eH ho hd (by simp) ?_)));show aC _ _ (Ci (.type "StopIteration") [] >>= _) _ _ _;simp only[Ci,newTuple];refine ab (ab (dg ?_ (by size_fits)));refine ab (m:=iO _ _) (rK (a:=bz) (by first|rfl|(simp only[iO];rfl)) ?_);refine dg ?_ (by size_fits);simp only[raiseNew];refine ab (xp ?_)
 first|rw[show A.in1.handled=p4 from hh]|rw[hh]
 exact ab (ae (wpAny_throw (q _ _ (((bQ ..).extBut.push _).push _) ⟨_,aE _ rfl,rfl⟩)))
end
def Draws.tup{prog:br}{w:bL}{A:bD}(hh:A.handled=p4)(it t:au)(gj:t≠it)(vs:Array ah):Draws prog w A it [it,t] vs.size (λi v=>vs[i]?=el v) (λi h=>h.IsTupleIter it t i∧h.IsTuple t vs) where
 live:=λ_ _ st=>let⟨o,ho,_⟩:=st.1;⟨o,ho⟩
 frame:=λ_ _ _ st hk=>⟨let⟨o,ho,r⟩:=st.1;⟨o,hk it (by simp) o ho,r⟩,let⟨o,ho,r⟩:=st.2;⟨o,hk t (by simp) o ho,r⟩⟩
 item:=λi s Q E hi st hQ=>a7C st.1 st.2 (x:=vs[i]) (by simp[hi]) λh' pI oR=>hQ _ h' s.toks (by simp[hi]) ⟨pI,st.2.extBut oR.extBut gj⟩ oR
 done:=λs Q E st hE=>b0m hh st.1 st.2 (by simp) hE
def a2I(h:bN)(z TI TO i1 i2:au):Prop:=
 jk h TI (.ref i1) (.ref i2)∧(∃a b,jk h TO a b)∧(nq h z TI TO .none∨∃(T:au) (f1:ah) (o:fD),T≠z∧T≠TO∧T≠i1∧T≠i2∧h.get? T=el o∧h.get? z=el {cls:=.type "zip",dict:=p4,data:=.fields #[cY T,f1,.bool false,.ref TI,.ref TO],slots:=#[]})
structure ZApart (z TI TO i1 i2:au) (fp1 fp2:List au):Prop where
 TIz:TI≠z
 TOz:TO≠z
 TITO:TI≠TO
 i12:i1≠i2
 TI1:TI≠i1
 TI2:TI≠i2
 TO1:TO≠i1
 TO2:TO≠i2
 z1:z≠i1
 z2:z≠i2
 zf1:z∉fp1
 zf2:z∉fp2
 Of1:TO∉fp1
 Of2:TO∉fp2
 if2:i1∉fp2
 if1:i2∉fp1
section
variable {prog:br}{w:bL}{A:bD}{E:ah→ai→Prop}{s:ai}{z TI TO i1 i2:au}{fp1 fp2:List au}{n i:Nat}{P1 P2:Nat→ah→Prop}{St1 St2:Nat→bN→Prop}
def b0n{Q:ah→ai→Prop}(D1:Draws prog w A i1 fp1 n P1 St1)(D2:Draws prog w A i2 fp2 n P2 St2)(Z:ZApart z TI TO i1 i2 fp1 fp2)(hz:a2I s.heap z TI TO i1 i2)(hi:i<n)(s1:St1 i s.heap)(s2:St2 i s.heap)
  (q:∀T x y h' tk,P1 i x→P2 i y→s.heap.objs.size≤T→jk h' T x y→a2I h' z TI TO i1 i2→St1 (i+1) h'→St2 (i+1) h'→(∀c o,c≠z→c≠TO→c≠i1→c≠i2→s.heap.get? c=el o→h'.get? c=el o)→Q (.ref T) {s with heap:=h',toks:=tk}) :
  aC (aV prog w) A (Builtin.«zip.__next__» ⟨[.ref z],[]⟩) (λfin s'=>∃v,fin=.done (.ret v)∧Q v s') E s:=by
 have tL:∀{h h':bN} {j:Nat},St1 j h→(∀b o,b≠z→b≠TO→b≠i2→h.get? b=el o→h'.get? b=el o)→St1 j h':=λst k=>D1.frame _ _ _ st λb hb o e=>k b o (λx=>Z.zf1 (x▸hb)) (λx=>Z.Of1 (x▸hb)) (λx=>Z.if1 (x▸hb)) e
 have so:∀{h h':bN} {j:Nat},St2 j h→(∀b o,b≠z→b≠TO→b≠i1→h.get? b=el o→h'.get? b=el o)→St2 j h':=λst k=>D2.frame _ _ _ st λb hb o e=>k b o (λx=>Z.zf2 (x▸hb)) (λx=>Z.Of2 (x▸hb)) (λx=>Z.if2 (x▸hb)) e
 obtain⟨rf,⟨a,b,vF⟩,hz⟩:=hz;rcases hz with hz|⟨T0,f1,o0,t1,t2,t3,t4,wM,hz⟩
 ·show aC _ _ (nW (.ref z) 2 >>= _) _ _ _;refine ab (cP hz rfl (x:=.bool false) rfl ?_);show aC _ _ (nW (.ref z) 3 >>= _) _ _ _;refine ab (cP hz rfl (x:=.ref TI) rfl (ab (dI rf rfl ?_)));show aC _ _ (bX (.ref z) >>= _) _ _ _;unfold bX;refine ab (ab (cP hz rfl (x:=.none) rfl (ae ?_)));simp only[gT];refine ab (dW (ab (cP hz rfl (x:=.ref TO) rfl ?_)));refine ab (fy hz (by simp) λh₁ jo e₁=>ab ?_)
  replace jo:nq h₁ z TI TO .ellipsis:=jo
  simp only[Fe,Gi,iX,jB];refine ab (ab (xm ?_));show aC _ _ (cu (.ref i1) >>= _) _ _ _;refine ab (D1.item i _ _ _ hi (tL s1 λb o b1 _ _ e=>e₁.extBut _ _ b1 e) λx h₂ k₂ px g1 e₂=>ae ?_)
  replace e₂:cE i1 h₁ h₂:=e₂
  have pQ:jk h₂ TO a b:=e₂.extBut _ _ Z.TO1 (e₁.extBut _ _ Z.TOz vF);refine ab (dI pQ rfl (ab (wpAny_updateSeq_pair pQ λh₃ nQ e₃=>ab (mH (ae ?_)))))
  replace e₃:cE TO h₂ h₃:=e₃
  replace nQ:jk h₃ TO x b:=nQ
  have kY:∀c o,c≠z→c≠TO→c≠i1→s.heap.get? c=el o→h₃.get? c=el o:=λc o c1 c2 c3 e=>e₃.extBut _ _ c2 (e₂.extBut _ _ c3 (e₁.extBut _ _ c1 e))
  refine ab (ab (xm ?_));show aC _ _ (cu (.ref i2) >>= _) _ _ _;refine ab (D2.item i _ _ _ hi (so s2 λb o b1 b2 b3 e=>kY b o b1 b2 b3 e) λy h₄ k₄ py g2 e₄=>ae ?_)
  replace e₄:cE i2 h₃ h₄:=e₄
  have pP:jk h₄ TO x b:=e₄.extBut _ _ Z.TO2 nQ;refine ab (dI pP rfl (ab (wpAny_updateSeq_pair pP λh₅ lr e₅=>ab (mH (ae (ae ?_))))))
  replace e₅:cE TO h₄ h₅:=e₅
  replace lr:jk h₅ TO x y:=lr
  refine ab (dI lr rfl (ab (mG ?_)));have sz:h₅.objs.size=s.heap.objs.size:=by rw[e₅.1,e₄.1,e₃.1,e₂.1,e₁.1]
  have rP:nq h₅ z TI TO .ellipsis:=e₅.extBut _ _ Z.TOz.symm (e₄.extBut _ _ Z.z2 (e₃.extBut _ _ Z.TOz.symm (e₂.extBut _ _ Z.z1 jo)));have rL:∀c o,c≠z→c≠TO→c≠i1→c≠i2→s.heap.get? c=el o→h₅.get? c=el o:=λc o c1 c2 c3 c4 e=>e₅.extBut _ _ c2 (e₄.extBut _ _ c4 (kY c o c1 c2 c3 e))
  show aC _ _ (nS (.ref z) (.ref h₅.objs.size) >>= _) _ _ _;unfold nS;have uS:nq (h₅.push {cls:=.type "tuple",data:=.seq #[x,y]}) z TI TO .ellipsis:=af _ rP;refine ab (ab (fy uS (by simp) λh₇ pw e₇=>?_))
  replace pw:nq h₇ z TI TO (cY h₅.objs.size):=pw
  refine fy pw (by simp) λh₈ pq e₈=>ae ⟨_,rfl,?_⟩
  replace pq:nq h₈ z TI TO (cY h₅.objs.size):=pq
  have mJ:∀c o,c≠z→h₅.get? c=el o→h₈.get? c=el o:=λc o c1 e=>e₈.extBut _ _ c1 (e₇.extBut _ _ c1 (af _ e))
  have xi:z<h₅.objs.size:=aG rP;have Cr:i1<h₅.objs.size:=by
   obtain⟨o,ho⟩:=D1.live _ _ g1;rw[e₅.1,e₄.1,e₃.1];exact aG ho
  have Cq:i2<h₅.objs.size:=by
   obtain⟨o,ho⟩:=D2.live _ _ g2;rw[e₅.1];exact aG ho
  have hT:jk h₈ h₅.objs.size x y:=e₈.extBut _ _ (dQ xi) (e₇.extBut _ _ (dQ xi) (aE _ rfl));refine q h₅.objs.size x y h₈ k₄ px py (by rw[sz];exact aD _) hT ⟨mJ _ _ Z.TIz (rL _ _ Z.TIz Z.TITO Z.TI1 Z.TI2 rf),⟨x,y,mJ _ _ Z.TOz lr⟩,.inr ⟨h₅.objs.size,.bool false,_,dQ xi,dQ (aG lr),dQ Cr,dQ Cq,hT,pq⟩⟩ ?_ ?_ λc o c1 c2 c3 c4 e=>mJ c o c1 (rL c o c1 c2 c3 c4 e)
  ·exact tL g1 λb o b1 b2 b3 e=>mJ _ _ b1 (e₅.extBut _ _ b2 (e₄.extBut _ _ b3 (e₃.extBut _ _ b2 e)))
  ·exact so g2 λb o b1 b2 b3 e=>mJ _ _ b1 (e₅.extBut _ _ b2 e)
 ·show aC _ _ (nW (.ref z) 2 >>= _) _ _ _;refine ab (cP hz rfl (x:=.bool false) rfl ?_);show aC _ _ (nW (.ref z) 3 >>= _) _ _ _;refine ab (cP hz rfl (x:=.ref TI) rfl (ab (dI rf rfl ?_)));show aC _ _ (bX (.ref z) >>= _) _ _ _;unfold bX;refine ab (ab (cP hz rfl (x:=cY T0) rfl ?_));show aC _ _ (loadIfAlive T0 >>= _) _ _ _;refine ab (a1A ?_);rw[wM];rw[aI (by simp)];refine cX (Q:=λb s'=>b=false∧∃h₁ f,s'={s with heap:=h₁}∧h₁.get? z=el {cls:=.type "zip",dict:=p4,data:=.fields #[cY T0,f,.bool false,.ref TI,.ref TO],slots:=#[]}∧cE z s.heap h₁) ?_ (λb s' hb=>?_) λ_ _ e=>e
  ·refine ab (cP hz rfl (x:=f1) rfl ?_);by_cases c:(f1 !=ji true)=true
   ·rw[aB c];exact ab (fy hz (by simp) λh₁ jo e₁=>ae ⟨rfl,h₁,.bool true,rfl,jo,e₁⟩)
   ·rw[aI c];exact ae ⟨rfl,s.heap,f1,rfl,hz,⟨rfl,λ_ _=>rfl⟩⟩
  ·obtain⟨rfl,h₁,f,rfl,jo,e₁⟩:=hb;simp only[cg,dX];refine ab (ab (ab (bJ ?_)));show aC _ _ (cu (.ref i1) >>= _) _ _ _;refine ab (D1.item i _ _ _ hi (tL s1 λb o b1 _ _ e=>e₁.extBut _ _ b1 e) λx h₂ k₂ px g1 e₂=>ae (ae ?_))
   replace e₂:cE i1 h₁ h₂:=e₂
   refine ab (ab (bJ ?_));show aC _ _ (cu (.ref i2) >>= _) _ _ _;refine ab (D2.item i _ _ _ hi (so s2 λb o b1 b2 b3 e=>e₂.extBut _ _ b3 (e₁.extBut _ _ b1 e)) λy h₃ k₃ py g2 e₃=>ae (ae (ae ?_)))
   replace e₃:cE i2 h₂ h₃:=e₃
   have sz:h₃.objs.size=s.heap.objs.size:=by rw[e₃.1,e₂.1,e₁.1]
   have kY:∀c o,c≠z→c≠i1→c≠i2→s.heap.get? c=el o→h₃.get? c=el o:=λc o c1 c3 c4 e=>e₃.extBut _ _ c4 (e₂.extBut _ _ c3 (e₁.extBut _ _ c1 e))
   have uT:=e₃.extBut _ _ Z.z2 (e₂.extBut _ _ Z.z1 jo);refine ab (mG (hsz:=by rw[cQ];show 2≤_;decide) (ae ⟨_,rfl,?_⟩));refine q h₃.objs.size x y _ k₃ px py (by rw[sz];exact aD _) (aE _ rfl) ⟨af _ (kY _ _ Z.TIz Z.TI1 Z.TI2 rf),⟨a,b,af _ (kY _ _ Z.TOz Z.TO1 Z.TO2 vF)⟩,.inr ⟨T0,f,o0,t1,t2,t3,t4,af _ (kY _ _ t1 t3 t4 wM),af _ uT⟩⟩ ?_ ?_ λc o c1 c2 c3 c4 e=>af _ (kY c o c1 c3 c4 e)
   ·exact tL g1 λb o b1 b2 b3 e=>af _ (e₃.extBut _ _ b3 e)
   ·exact so g2 λb o b1 b2 b3 e=>af _ e
def b2A{Q:Fin→ai→Prop}(D1:Draws prog w A i1 fp1 n P1 St1)(Z:ZApart z TI TO i1 i2 fp1 fp2)(hz:a2I s.heap z TI TO i1 i2)(s1:St1 n s.heap)
  (q:∀h' e,(∀c o,c≠z→c≠TO→c≠i1→c≠i2→s.heap.get? c=el o→h'.get? c=el o)→(∃o,h'.get? e=el o∧o.cls=.type "StopIteration")→E (.ref e) {s with heap:=h'}) :
  aC (aV prog w) A (Builtin.«zip.__next__» ⟨[.ref z],[]⟩) Q E s:=by
 have tL:∀{h h':bN} {j:Nat},St1 j h→(∀b o,b≠z→b≠TO→b≠i2→h.get? b=el o→h'.get? b=el o)→St1 j h':=λst k=>D1.frame _ _ _ st λb hb o e=>k b o (λx=>Z.zf1 (x▸hb)) (λx=>Z.Of1 (x▸hb)) (λx=>Z.if1 (x▸hb)) e
 obtain⟨rf,⟨a,b,vF⟩,hz⟩:=hz;rcases hz with hz|⟨T0,f1,o0,t1,t2,t3,t4,wM,hz⟩
 ·show aC _ _ (nW (.ref z) 2 >>= _) _ _ _;refine ab (cP hz rfl (x:=.bool false) rfl ?_);show aC _ _ (nW (.ref z) 3 >>= _) _ _ _;refine ab (cP hz rfl (x:=.ref TI) rfl (ab (dI rf rfl ?_)));show aC _ _ (bX (.ref z) >>= _) _ _ _;unfold bX;refine ab (ab (cP hz rfl (x:=.none) rfl (ae ?_)));simp only[gT];refine ab (dW (ab (cP hz rfl (x:=.ref TO) rfl ?_)));refine ab (fy hz (by simp) λh₁ jo e₁=>ab ?_)
  replace jo:nq h₁ z TI TO .ellipsis:=jo
  simp only[Fe,Gi,iX,jB];refine ab (ab (xm ?_));show aC _ _ (cu (.ref i1) >>= _) _ _ _;refine ab (D1.done _ _ _ (tL s1 λb o b1 _ _ e=>e₁.extBut _ _ b1 e) λh₂ e e₂ he=>?_);obtain⟨oe,ye,AE⟩:=he;have rQ:nq h₂ z TI TO .ellipsis:=e₂ _ _ Z.z1 jo;have DG:e≠z:=λx=>by subst x;rw[rQ]at ye;cases ye;simp at AE
  exact fy rQ (by simp) λh₃ _ e₃=>q h₃ e (λc o c1 _ c3 _ x=>e₃.extBut _ _ c1 (e₂ _ _ c3 (e₁.extBut _ _ c1 x))) ⟨oe,e₃.extBut _ _ DG ye,AE⟩
 ·show aC _ _ (nW (.ref z) 2 >>= _) _ _ _;refine ab (cP hz rfl (x:=.bool false) rfl ?_);show aC _ _ (nW (.ref z) 3 >>= _) _ _ _;refine ab (cP hz rfl (x:=.ref TI) rfl (ab (dI rf rfl ?_)));show aC _ _ (bX (.ref z) >>= _) _ _ _;unfold bX;refine ab (ab (cP hz rfl (x:=cY T0) rfl ?_));show aC _ _ (loadIfAlive T0 >>= _) _ _ _;refine ab (a1A ?_);rw[wM,aI (by simp)];refine cX (Q:=λb s'=>b=false∧∃h₁,s'={s with heap:=h₁}∧cE z s.heap h₁) ?_ (λb s' hb=>?_) λ_ _ e=>e
  ·refine ab (cP hz rfl (x:=f1) rfl ?_);by_cases c:(f1 !=ji true)=true
   ·rw[aB c];exact ab (fy hz (by simp) λh₁ _ e₁=>ae ⟨rfl,h₁,rfl,e₁⟩)
   ·rw[aI c];exact ae ⟨rfl,s.heap,rfl,⟨rfl,λ_ _=>rfl⟩⟩
  ·obtain⟨rfl,h₁,rfl,e₁⟩:=hb;simp only[cg,dX];refine ab (ab (ab (bJ ?_)));show aC _ _ (cu (.ref i1) >>= _) _ _ _;exact ab (D1.done _ _ _ (tL s1 λb o b1 _ _ e=>e₁.extBut _ _ b1 e) λh₂ e e₂ he=>q h₂ e (λc o c1 _ c3 _ x=>e₂ _ _ c3 (e₁.extBut _ _ c1 x)) he)
def b0o{Q:Option ah→ai→Prop}(D1:Draws prog w A.in1 i1 fp1 n P1 St1)(D2:Draws prog w A.in1 i2 fp2 n P2 St2)(Z:ZApart z TI TO i1 i2 fp1 fp2)(hz:a2I s.heap z TI TO i1 i2)(hi:i<n)(s1:St1 i s.heap)(s2:St2 i s.heap)
  (q:∀T x y h' tk,P1 i x→P2 i y→s.heap.objs.size≤T→jk h' T x y→a2I h' z TI TO i1 i2→St1 (i+1) h'→St2 (i+1) h'→(∀c o,c≠z→c≠TO→c≠i1→c≠i2→s.heap.get? c=el o→h'.get? c=el o)→Q (el (.ref T)) {s with heap:=h',toks:=tk}) :
  aC (aV prog w) A (fP (.ref z)) Q E s:=by
 have hT:s.TypeIs (.ref z) "zip":=by
  rcases hz.2.2 with h|⟨_,_,_,_,_,_,_,_,h⟩
  ·exact⟨_,h,rfl⟩
  ·exact⟨_,h,rfl⟩
 unfold fP;exact ab (gz (bK (name:=cm "__next__") hT mi (bB mi hT F.entry_zip_next
  (b0n D1 D2 Z hz hi s1 s2 λT x y h' tk a1 a2 a3 a4 a5 a6 a7 a8=>ae (q T x y h' tk a1 a2 a3 a4 a5 a6 a7 a8)) (F.args_zip_next_1 _))))
def b0p{Q:Option ah→ai→Prop}(D1:Draws prog w A.in1 i1 fp1 n P1 St1)(Z:ZApart z TI TO i1 i2 fp1 fp2)(hz:a2I s.heap z TI TO i1 i2)(s1:St1 n s.heap)
  (q:∀h',(∀c o,c≠z→c≠TO→c≠i1→c≠i2→s.heap.get? c=el o→h'.get? c=el o)→Q p4 {s with heap:=h'}):aC (aV prog w) A (fP (.ref z)) Q E s:=by
 have hT:s.TypeIs (.ref z) "zip":=by
  rcases hz.2.2 with h|⟨_,_,_,_,_,_,_,_,h⟩
  ·exact⟨_,h,rfl⟩
  ·exact⟨_,h,rfl⟩
 unfold fP;refine ab (gz (bK (name:=cm "__next__") hT mi (bB mi hT F.entry_zip_next (b2A D1 Z hz s1 λh' e hk he=>?_) (F.args_zip_next_1 _))));obtain⟨o,ho,hc⟩:=he;exact ab (fu (T:="StopIteration") (b:=true) ⟨o,ho,hc⟩ uP (ae (q _ hk)))
end
namespace F
def entry_zip_ga:vQ table "zip.__getattribute__"=el Builtin.«object.__getattribute__»:=
 vP (id':="object.__getattribute__") (by kernel_rfl) (by first|rfl|decide +kernel) (by decide +kernel) (by kernel_rfl)
def lk_zip_keys:om (.type "zip") "keys"=pure p4:=by rw[lY,i_];kernel_rfl
def lk_zip_hook:om (.type "zip") "__getattr__"=pure p4:=by rw[lY,i_];kernel_rfl
end F
def b2B(a:au)(vs:Array ah)(u:Tok):Meets (Builtin.«object.__getattribute__» ⟨[.ref a,.str "keys" u],[]⟩) (λA R s=>s.heap.get? a=el {cls:=.type "zip",dict:=p4,data:=.fields vs,slots:=#[]}∧raisesAttr (.ref a) "keys" A R s):=
 Meets.of_wp λprog w A R s hs=>by
  obtain⟨hp,g,d,tk,os⟩:=s;obtain⟨hx,hs⟩:=hs;have hT:(⟨hp,g,d,tk,os⟩:ai).TypeIs (.ref a) "zip":=⟨_,hx,rfl⟩;have f4:=F.lk_zip_keys
  repeat (any_goals (first|assumption|wp_step))
  exact wpAny_raiseAttrError hs.1 hs.2 (attrMsg_fits (by decide +kernel) (by size_fits))
def a7D{prog:br}{w:bL}{A:bD}{E:ah→ai→Prop}{s:ai}{a:au}{vs:Array ah}{Q:Option ah→ai→Prop}(hA:A.handled=p4)(hx:s.heap.get? a=el {cls:=.type "zip",dict:=p4,data:=.fields vs,slots:=#[]})
  (q:∀h' tk,(∀b o,s.heap.get? b=el o→h'.get? b=el o)→Q p4 {s with heap:=h',toks:=tk}):aC (aV prog w) A (getAttr? (.ref a) "keys") Q E s:=by
 obtain⟨hp,g,d,tk,os⟩:=s;have hT:∀wg,(⟨hp,g,d,wg,os⟩:ai).TypeIs (.ref a) "zip":=λ_=>⟨_,hx,rfl⟩
 have f1:=sub_AttributeError;have f3:=lF.lookup;have f4:=lF.bind (.ref a);have f5:=F.lk_zip_hook;unfold getAttr? getAttrBy? getAttrBy
 repeat (any_goals (first|assumption|exact hT _|((with_reducible show aC _ _ (call (zh "zip.__getattribute__") _ _) _ _ _);refine call_meets lF (hT _) F.entry_zip_ga (F.args_zip_getattribute_2 _ _) (b2B a vs _) ⟨hx,hA,λh' wg e sJ=>?_⟩)|wp_step))
 obtain⟨t',u',he⟩:=sJ.there;show aC _ _ (getattributeRaised _ _ _ _ _ _ _) _ _ _;unfold getattributeRaised
 repeat (any_goals (first|assumption|wp_step))
 trace_state
 exact q _ _ sJ.keeps
end PySem
namespace PySem.F
def entry_dict_update_loop:vQ table "dict.update.loop"=el Builtin.«dict.update.loop»:=entryFor_of_tree (by kernel_rfl)
def plain_dict_update_loop:plainId "dict.update.loop"=true:=by decide +kernel
end PySem.F
namespace VS
open PySem PySem.Spec L2
def ziE(ns ms:List Int):List (D×V×V):=(ns.zip ms).map λp=>(.int p.1,.int p.1,.int p.2)
section
variable {X:Cx}{pins:List (au×fD)}{σ:L2.St}{H:Hp}{A:bD}{d z TI TO i1 i2:au}{fp1 fp2:List au}{St1 St2:Nat→bN→Prop}{ns ms:List Int}
def b2C{R:vY→ai→Prop}(hu:A.units+20<cV)
  (D1:Draws X.prog X.w A.in1.in1 i1 fp1 ns.length (λi v=>∃t,v=.int (ns.getD i 0) t) St1) (D2:Draws X.prog X.w A.in1.in1 i2 fp2 ns.length (λi v=>∃t,v=.int (ms.getD i 0) t) St2) (Z:ZApart z TI TO i1 i2 fp1 fp2)
  (hl:ms.length=ns.length) (jl:ns.Nodup) (hsz:ns.length<aS) (dz:d∉[z,TI,TO,i1,i2]++fp1++fp2):∀(k i:Nat) (s:ai),ns.length-i=k→i≤ns.length→
   Inv X pins σ (upd H d (c6 d (ziE (ns.take i) (ms.take i)))) s→(∀b∈[z,TO,i1,i2],Z8 X pins (upd H d (c6 d [])) b)→a2I s.heap z TI TO i1 i2→St1 i s.heap→St2 i s.heap→
   (∀s',Inv X pins σ (upd H d (c6 d (ziE ns ms))) s'→R (.ok (.ret .none)) s')→gF (aV X.prog X.w) A (.builtin "dict.update.loop" ⟨[.ref d,.ref z,cY i,.none],[]⟩) R s:=by
 have dn:∀b,b∈[z,TI,TO,i1,i2]++fp1++fp2→b≠d:=λb hb e=>dz (e▸hb)
 have AV:∀{o o':HO} {b:au},b≠d→Z8 X pins (upd H d o) b→Z8 X pins (upd H d o') b:=λhb h=>⟨by rw[f7 hb];have:=h.1;rwa[f7 hb]at this,h.2⟩
 intro k
 induction k with
 |zero=>
  intro i s hk hi I hf hz g1 g2 hR;have e:i=ns.length:=by lia
  subst e;refine dP PySem.F.entry_dict_update_loop ?_;rw[cW PySem.F.plain_dict_update_loop _];show aC _ A.in1 (fP (.ref z) >>= _) _ _ s;refine ab (b0p D1 Z hz g1 λh' up=>?_);rw[ki,←hl,ki]at I;refine ab (ae (ae (hR _ ?_)));exact a1M (t':=s.toks) (ch:=[z,TO,i1,i2]) I (λb o hb e=>up b o (λq=>hb (by simp[q])) (λq=>hb (by simp[q])) (λq=>hb (by simp[q])) (λq=>hb (by simp[q])) e) λb hb=>AV (dn b (by
   simp only[az,cF,or_false]at hb;rcases hb with rfl|rfl|rfl|rfl<;>simp)) (hf b hb)
 |succ k ih=>
  intro i s hk hi I hf hz g1 g2 hR;have hW:i<ns.length:=by lia
  refine dP PySem.F.entry_dict_update_loop ?_;rw[cW PySem.F.plain_dict_update_loop _];show aC _ A.in1 (fP (.ref z) >>= _) _ _ s;refine ab (b0o D1 D2 Z hz hW g1 g2 λT x y h' tk px py hT AI CB sk lQ up=>?_);obtain⟨tx,rfl⟩:=px;obtain⟨ty,rfl⟩:=py;have I1:Inv X pins σ (upd H d (c6 d (ziE (ns.take i) (ms.take i)))) {s with heap:=h',toks:=tk}:=a1M (t':=tk) (ch:=[z,TO,i1,i2]) I (λb o hb e=>up b o (λq=>hb (by simp[q])) (λq=>hb (by simp[q])) (λq=>hb (by simp[q])) (λq=>hb (by simp[q])) e) λb hb=>AV (dn b (by
   simp only[az,cF,or_false]at hb;rcases hb with rfl|rfl|rfl|rfl<;>simp)) (hf b hb)
  refine ab (bJ (ab (wpAny_tryCatch ?_)));unfold Builtin.Dict.pairItems;refine ab (gY (show kS {s with heap:=h',toks:=tk} (.ref T) "tuple" from⟨_,AI,rfl⟩) ?_);rw[aB (by decide)];refine ab (dI AI rfl (ae ?_));show aC _ _ (nt _ (ET d (.int (ns.getD i 0) tx) (.int (ms.getD i 0) ty))) _ _ _;refine bJ ?_;unfold ET
  try with_reducible refine bJ ?_
  have kk:keyOk false (ay (ns.getD i 0)):=v5 rfl;have Ay:∀e∈ziE (ns.take i) (ms.take i),∃n m,n∈ns.take i∧e=(ay n,V.int n,V.int m):=λe he=>by
   obtain⟨p,hp,rfl⟩:=aY.mp he;exact⟨p.1,p.2,(gU hp).1,rfl⟩
  have K:KeysAt X (upd H d (c6 d (ziE (ns.take i) (ms.take i)))) false (ziE (ns.take i) (ms.take i)) (.int (ns.getD i 0)) (.int (ns.getD i 0)):=⟨λe he=>by
   obtain⟨n,m,_,rfl⟩:=Ay e he;exact⟨v5 rfl,den_int⟩,kk,den_int⟩
  have jr:ns.getD i 0=ns[i]:=by rw[aM,ak hW];rfl
  have yQ:ms.getD i 0=ms[i]:=by rw[aM,ak (by lia)];rfl
  have oD:∀e∈ziE (ns.take i) (ms.take i),e.1≠ay (ns.getD i 0):=λe he h=>by
   obtain⟨n,m,hn,rfl⟩:=Ay e he
   injection h with h
   obtain⟨j,hj,e2⟩:=gu.mp hn;rw[eh]at hj;rw[Br,h,jr]at e2;have sW:j<ns.length:=by lia
   have:=(List.getElem?_inj sW jl).mp (show ns[j]?=ns[i]? by rw[ak sW,ak hW,e2]);lia
  have hlen:(ziE (ns.take i) (ms.take i)).length=i:=by unfold ziE;rw[ar,dS,eh,eh];lia
  have sT:ziE (ns.take i) (ms.take i)++[(.int (ns.getD i 0),.int (ns.getD i 0),.int (ms.getD i 0))]=ziE (ns.take (i+1)) (ms.take (i+1)):=by
   unfold ziE;rw[ni hW,ni (show i<ms.length by lia),oO (by rw[eh,eh];lia),aT,jr,yQ];rfl
  have rk:RelV (V.int (ns.getD i 0)) (gA (ns.getD i 0) tx):=⟨tx,rfl⟩;have rv:RelV (V.int (ms.getD i 0)) (gA (ms.getD i 0) ty):=⟨ty,rfl⟩;refine ab (V2 I1 (by show A.units+1+10<_;lia) K.key K.den rk ?_);refine a5L (s:={s with heap:=h',toks:=tk+p8 (ay (ns.getD i 0))}) (I1.tok _) (by show A.units+1+10<_;lia) i6 K rk rv (by rw[hlen];lia) oD λh2 I2 sb=>?_
  rw[sT,show upd (upd H d (c6 d (ziE (ns.take i) (ms.take i)))) d (c6 d (ziE (ns.take (i+1)) (ms.take (i+1))))=upd H d (c6 d (ziE (ns.take (i+1)) (ms.take (i+1)))) from funext λb=>by unfold upd;split<;>rfl]at I2;have rM:∀b o,b≠d→h'.get? b=el o→h2.get? b=el o:=λb o hb e=>sb.extBut b o hb e
  refine ae ⟨fm PySem.F.plain_dict_update_loop _,?_⟩;have:=ih (i+1) {s with heap:=h2,toks:=tk+p8 (ay (ns.getD i 0))} (by lia) hW I2 hf ?_ (D1.frame _ _ _ sk λb hb o e=>rM b o (dn b (by simp[hb])) e) (D2.frame _ _ _ lQ λb hb o e=>rM b o (dn b (by simp[hb])) e) hR
  ·exact this
  ·obtain⟨a1,⟨p,q,a2⟩,a3⟩:=CB;refine⟨rM _ _ (dn TI (by simp)) a1,⟨p,q,rM _ _ (dn TO (by simp)) a2⟩,?_⟩;rcases a3 with a3|⟨T0,f1,o0,t1,t2,t3,t4,t5,t6⟩
   ·exact .inl (rM _ _ (dn z (by simp)) a3)
   ·by_cases c:T0=d
    ·subst c;obtain⟨o',nJ⟩:∃o',h2.get? T0=el o':=by
      obtain⟨_,_,_,o,_,_,h1,_⟩:=m8 I2 i6;exact⟨o,h1⟩
     exact .inr ⟨T0,f1,o',t1,t2,t3,t4,nJ,rM _ _ (dn z (by simp)) t6⟩
    ·exact .inr ⟨T0,f1,o0,t1,t2,t3,t4,rM _ _ c t5,rM _ _ (dn z (by simp)) t6⟩
end
end VS
namespace PySem
open Sem (wp)
abbrev a8E(h:bN)(l1:au):bN:=h.push {cls:=.type "tuple_iterator",data:=.fields #[.ref l1,.int 0 0]}
abbrev a8F(h:bN)(l1 l2:au):bN:=(a8E h l1).push {cls:=.type "tuple_iterator",data:=.fields #[.ref l2,.int 0 0]}
abbrev a8G(h:bN)(l1 l2:au):bN:=(a8F h l1 l2).push {cls:=.type "tuple",data:=.seq #[.ref h.objs.size,.ref (a8E h l1).objs.size]}
abbrev a8H(h:bN)(l1 l2:au):bN:=(a8G h l1 l2).push {cls:=.type "tuple",data:=.seq #[.none,.none]}
abbrev a3W(h:bN)(l1 l2:au):bN:=(a8H h l1 l2).push {cls:=.type "zip",data:=.fields #[.none,.bool false,.bool false,.ref (a8F h l1 l2).objs.size,.ref (a8G h l1 l2).objs.size]}
def a7E(l1 l2:au)(xs ys:Array ah):Meets (Builtin.«zip.__new__» ⟨[.type "zip",.ref l1,.ref l2],[]⟩) (λ_ R s=>s.heap.IsTuple l1 xs∧s.heap.IsTuple l2 ys∧R (.ok (.ret (.ref (a8H s.heap l1 l2).objs.size))) {s with heap:=a3W s.heap l1 l2}):=
 .of_wp λprog w A R s h=>by
  obtain⟨hp,g,d,tk,os⟩:=s;obtain⟨qu,qo,h⟩:=h;have jf:=sub_zip;have Ep:bN.IsTuple (ai.heap ⟨hp,g,d,tk,os⟩) l1 xs:=qu;have Eo:bN.IsTuple (ai.heap ⟨hp.push {cls:=.type "tuple_iterator",data:=.fields #[.ref l1,.int 0 0]},g,d,tk,os⟩) l2 ys:=bN.IsTuple.push qo _
  wp_walk using oh Ep,oh Eo
  exact⟨_,rfl,h⟩
section
variable {prog:br}{w:bL}{A:bD}{E:ah→ai→Prop}{s:ai}
def b0q{l1 l2:au}{xs ys:Array ah}{Q:ah→ai→Prop}(qu:s.heap.IsTuple l1 xs)(qo:s.heap.IsTuple l2 ys)
  (q:∀h',nq h' (s.heap.objs.size+4) (s.heap.objs.size+2) (s.heap.objs.size+3) .none→jk h' (s.heap.objs.size+2) (.ref s.heap.objs.size) (.ref (s.heap.objs.size+1))→jk h' (s.heap.objs.size+3) .none .none→h'.IsTupleIter s.heap.objs.size l1 0→h'.IsTupleIter (s.heap.objs.size+1) l2 0→
   (∀c o,s.heap.get? c=el o→h'.get? c=el o)→Q (.ref (s.heap.objs.size+4)) {s with heap:=h'}):aC (aV prog w) A (call (.type "zip") [.ref l1,.ref l2]) Q E s:=by
 refine callType_new F.called_zip (by decide) (F.typeCall_zip_2 _ _) (F.newCall_zip_2 _ _) (λobj=>F.args_object_init_3 obj _ _) F.entry_zip_new (a7E l1 l2 xs ys) ⟨qu,qo,?_⟩;have z1:(a8E s.heap l1).objs.size=s.heap.objs.size+1:=cL ..;have z2:(a8F s.heap l1 l2).objs.size=s.heap.objs.size+2:=by rw[cL,z1]
 have z3:(a8G s.heap l1 l2).objs.size=s.heap.objs.size+3:=by rw[cL,z2]
 have z4:(a8H s.heap l1 l2).objs.size=s.heap.objs.size+4:=by rw[cL,z3]
 have up:∀{h:bN} {o:fD} {c:au} {u:fD},h.get? c=el u→(h.push o).get? c=el u:=λe=>af _ e
 have g5:(a3W s.heap l1 l2).get? (a8H s.heap l1 l2).objs.size=el _:=aE _ rfl;have g4:(a3W s.heap l1 l2).get? (a8G s.heap l1 l2).objs.size=el _:=up (aE _ rfl);have g3:(a3W s.heap l1 l2).get? (a8F s.heap l1 l2).objs.size=el _:=up (up (aE _ rfl));have g2:(a3W s.heap l1 l2).get? (a8E s.heap l1).objs.size=el _:=up (up (up (aE _ rfl)));have g1:(a3W s.heap l1 l2).get? s.heap.objs.size=el _:=up (up (up (up (aE _ rfl))));show _∧_;rw[z2,z3,z4]at g5;rw[z1,z2]at g3;rw[z3]at g4;rw[z1]at g2;rw[z4];exact⟨⟨_,g5,rfl⟩,q _ g5 g3 g4 ⟨_,g1,rfl,rfl⟩ ⟨_,g2,rfl,rfl⟩ λc o x=>up (up (up (up (up x))))⟩
end
end PySem
namespace VS
open PySem PySem.Spec L2
section
variable {X:Cx}{pins:List (au×fD)}{σ:L2.St}{H:Hp}{s:ai}{z TI TO i1 i2:au}{fp1 fp2:List au}{St1 St2:Nat→bN→Prop}{ns ms:List Int}
def b2D{Q:VK}(hc:X.calm=true)(hu:X.A.units+40<cV)(I:Inv X pins σ H s)
  (D1:∀A:bD,A.handled=p4→Draws X.prog X.w A i1 fp1 ns.length (λi v=>∃t,v=.int (ns.getD i 0) t) St1) (D2:∀A:bD,A.handled=p4→Draws X.prog X.w A i2 fp2 ns.length (λi v=>∃t,v=.int (ms.getD i 0) t) St2) (Z:ZApart z TI TO i1 i2 fp1 fp2)
  (hl:ms.length=ns.length) (jl:ns.Nodup) (hsz:ns.length<aS) (hW:∀b∈[z,TI,TO,i1,i2]++fp1++fp2,b<s.heap.objs.size) (hf:∀b∈[z,TO,i1,i2],Z8 X pins H b) (hz:nq s.heap z TI TO .none) (rf:jk s.heap TI (.ref i1) (.ref i2)) (vF:jk s.heap TO .none .none) (g1:St1 0 s.heap) (g2:St2 0 s.heap)
  (q:∀d,H d=p4→Q (.ref d) (upd H d (c6 d (ziE ns ms)))):aC (aV X.prog X.w) X.A (call (.type "dict") [.ref z]) (EP X pins σ Q) X.xe s:=by
 have hh:X.A.handled=p4:=I.ok.hd hc;refine vX (Q₁:=λobj s₁=>obj=.ref s.heap.objs.size∧s₁={s with heap:=s.heap.push {cls:=.type "dict",data:=.dict #[]}}) PySem.F.kt_called_dict (PySem.F.kt_typeCall_dict_1 _) PySem.F.entry_dict_init (kt_code_dict_new _ ⟨rfl,rfl⟩) ?_;rintro obj s₁ ⟨rfl,rfl⟩;have qZ:(s.heap.push {cls:=.type "dict",data:=.dict #[]}).DictOf (dh X.prog X.w) s.heap.objs.size []:=bN.DictOf.new s.heap;refine⟨qZ.typeIs,PySem.F.args_dict_init_2 _ _,?_⟩;have sH:nq (s.heap.push {cls:=.type "dict",data:=.dict #[]}) z TI TO .none:=af _ hz;unfold Builtin.«dict.__init__»;refine ab ?_;unfold kU;refine ab (fG qZ.typeIs ?_);show aC _ _ (pure (s.heap.objs.size,[aW z])) _ _ _;refine ae ?_;show aC _ _ (eV "dict.__init__" s.heap.objs.size (.ref z) [] .none) _ _ _;unfold eV;refine ab (gY (T:="zip") ⟨_,sH,rfl⟩ ?_);rw[aB (by decide)];refine ab (a7D hh sH λh2 tk up=>?_);rw[aB (show (p4:Option ah).isNone=true from rfl)];have keep:∀b o,s.heap.get? b=el o→h2.get? b=el o:=λb o e=>up b o (af _ e)
 have zR:nq h2 z TI TO .none:=keep _ _ hz;refine ab (dW (ab (wpAny_pyIter_zip zR (ae ⟨fm PySem.F.plain_dict_update_loop _,?_⟩))));have yJ:H s.heap.objs.size=p4:=I.hok.fresh (aD _);have nd:∀b∈[z,TI,TO,i1,i2]++fp1++fp2,b≠s.heap.objs.size:=λb hb e=>absurd (hW b hb) (by rw[e];exact dt _)
 have I0:Inv X pins σ (upd H s.heap.objs.size (c6 s.heap.objs.size [])) {s with heap:=s.heap.push {cls:=.type "dict",data:=.dict #[]}}:=I.laid (a:=s.heap.objs.size) (o:=c6 s.heap.objs.size []) (t':=s.toks) (λ_ _ q=>af _ q) (aD _) (a1q s.heap I.sysBelow);have I1:Inv X pins σ (upd H s.heap.objs.size (c6 s.heap.objs.size [])) {s with heap:=h2,toks:=tk}:=I0.kept (t':=tk) up;refine b2C (X:=X) (pins:=pins) (σ:=σ) (H:=H) (A:=X.A.in1) (d:=s.heap.objs.size) (z:=z) (ns:=ns) (ms:=ms) (by show X.A.units+1+20<_;lia) (D1 _ hh) (D2 _ hh) Z hl jl hsz (λhb=>nd _ hb rfl) ns.length 0 {s with heap:=h2,toks:=tk} rfl (bI _) I1 (λb hb=>?_) ⟨keep _ _ rf,⟨_,_,keep _ _ vF⟩,.inl zR⟩
  ((D1 _ hh).frame _ _ _ g1 λb _ o e=>keep b o e) ((D2 _ hh).frame _ _ _ g2 λb _ o e=>keep b o e) λs' I'=>⟨rfl,.ref s.heap.objs.size,_,I',rfl,q _ yJ⟩
 have wK:b∈[z,TI,TO,i1,i2]++fp1++fp2:=by
  simp only[az,cF,or_false]at hb;rcases hb with rfl|rfl|rfl|rfl<;>simp
 exact⟨by rw[f7 (nd b wK)];exact (hf b hb).1,(hf b hb).2⟩
end
end VS
namespace PySem
def Draws.imp{prog:br}{w:bL}{A:bD}{it:au}{fp:List au}{n:Nat}{P P':Nat→ah→Prop}{St:Nat→bN→Prop}(D:Draws prog w A it fp n P St)(h:∀i v,i<n→P i v→P' i v):Draws prog w A it fp n P' St:=
 ⟨D.live,D.frame,λi s Q E hi st q=>D.item i s Q E hi st λx h' tk p=>q x h' tk (h i x hi p),D.done⟩
def b2E:gf "zip"=el (.type "zip"):=by kernel_rfl
end PySem
namespace VS
open PySem PySem.Spec L2
def SqI(K:ag)(H:Hp)(l:Bool)(a:au)(ns:List Int):Prop:=if l then SqL K H a (ns.map V.int) else SqT K H a (ns.map V.int)
def a1P{ns:List Int}{cJ:List ah}(h:Vals (ns.map V.int) cJ):cJ.length=ns.length∧∀(i:Nat) (v:ah),cJ[i]?=el v→∃t,v=.int (ns.getD i 0) t:=by
 refine⟨by rw[←h.length,ar],λi v hv=>?_⟩;have hi:i<ns.length:=by rw[←ar (f:=V.int),h.length];exact (aP.mp hv).1
 obtain⟨u,hu,r⟩:=h.get (show (ns.map V.int)[i]?=el (V.int (ns.getD i 0)) by rw[aU,ak hi,aM,ak hi];rfl);rw[hv]at hu;cases hu
 exact r
section
variable {X:Cx}{M:List Md}{a b:Expr}{fa fb:EvE}{ca cb:Cat}{pos ig p p2:ff}
def tDZ(X:Cx)(l:Bool)(t:TA):TE:=λσ H Q=>t σ H λxs H1=>∃u v ns ms,xs=[.ref u,.ref v]∧SqI X.K H1 l u ns∧SqI X.K H1 l v ms∧ms.length=ns.length∧ns.Nodup∧ns.length<aS∧∀d,H1 d=p4→Q (.ref d) (upd H1 d (c6 d (ziE ns ms)))
def a7F{l:Bool}{t:TA}(hc:X.calm=true)(hu:X.A.units+40<cV)(yk:X.mg "dict"=p4)(yj:X.mg "zip"=p4)(ha:PA X [a,b] t)(yB:Gl X "dict":=by rfl)(yx:Gl X "zip":=by rfl)
  (he:aw [a,b] X.env=(false,cy a X.env)::aw [b] X.env:=by rfl) (fJ:(cx ig (aw [b] X.env)).any (·.1)=false:=by rfl)
  (nu:aw [.Call (.Name "zip" p2) [a,b] [] ig] X.env=(false,cy (.Call (.Name "zip" p2) [a,b] [] ig) X.env)::aw [] X.env:=by rfl) (pD:(cx pos (aw [] X.env)).any (·.1)=false:=by rfl) :
  PE X (.Call (.Name "dict" p) [.Call (.Name "zip" p2) [a,b] [] ig] [] pos) (tDZ X l t):=by
 intro pins s σ H Q I h;refine fA (Y3 I yB yk PyProof.Rows.Boot.«dict» ?_ (by decide) (by decide));refine eQ ?_ nu pD;rw[nu];show aC _ _ (spliced ((false,cy (.Call (.Name "zip" p2) [a,b] [] ig) X.env)::cx pos (aw [] X.env))) _ _ s;refine Calls.spliced_cons ?_;refine fA (Y3 I yx yj b2E ?_ (by decide) (by decide));refine eQ (L2.thn (ha ig pins s σ H _ I h) λus s1 ⟨xs,H1,I1,r1,q1⟩=>?_) he fJ;obtain⟨u,v,ns,ms,rfl,Ac,Ab,hl,jl,hsz,q⟩:=q1;cases r1 with
 |cons r rr=>
  cases rr with
  |cons r' BO=>
   cases BO
   cases (show _=aW u from r)
   cases (show _=aW v from r')
   have fin:∀(h':bN) (fp1 fp2:List au) (St1 St2:Nat→bN→Prop),nq h' (s1.heap.objs.size+4) (s1.heap.objs.size+2) (s1.heap.objs.size+3) .none→jk h' (s1.heap.objs.size+2) (.ref s1.heap.objs.size) (.ref (s1.heap.objs.size+1))→jk h' (s1.heap.objs.size+3) .none .none→(∀c o,s1.heap.get? c=el o→h'.get? c=el o)→
     (∀A:bD,A.handled=p4→Draws X.prog X.w A s1.heap.objs.size fp1 ns.length (λi v=>∃t,v=.int (ns.getD i 0) t) St1)→(∀A:bD,A.handled=p4→Draws X.prog X.w A (s1.heap.objs.size+1) fp2 ns.length (λi v=>∃t,v=.int (ms.getD i 0) t) St2)→
     (∀b:Nat,b∈fp1→b≤s1.heap.objs.size)→(∀b:Nat,b∈fp2→b<s1.heap.objs.size∨b=s1.heap.objs.size+1)→St1 0 h'→St2 0 h'→
     aC (aV X.prog X.w) X.A (spliced (cx pos (aw [] X.env))) (λvs s2=>aC (aV X.prog X.w) X.A (call (.type "dict") (.ref (s1.heap.objs.size+4)::vs)) (EP X pins σ Q) X.xe s2) X.xe {s1 with heap:=h'}:=by
    intro h' fp1 fp2 St1 St2 z1 z2 z3 keep D1 D2 f1 f2 g1 g2;refine Calls.spliced_nil ?_;have I2:Inv X pins σ H1 {s1 with heap:=h'}:=I1.kept (t':=s1.toks) keep;have CA:s1.heap.objs.size+4<h'.objs.size:=aG z1;refine b2D (X:=X) (ns:=ns) (ms:=ms) (z:=s1.heap.objs.size+4) (TI:=s1.heap.objs.size+2) (TO:=s1.heap.objs.size+3) (i1:=s1.heap.objs.size) (i2:=s1.heap.objs.size+1) (fp1:=fp1) (fp2:=fp2) (St1:=St1) (St2:=St2) hc hu I2 D1 D2 ?_ hl jl hsz (λb hb=>?_) (λb hb=>?_) z1 z2 z3 g1 g2 q
    ·have n1:∀k,1≤k→s1.heap.objs.size+k∉fp1:=λk hk hb=>by have:=f1 _ hb;lia
     have n2:∀k,k≠1→s1.heap.objs.size+k∉fp2:=λk hk hb=>by rcases f2 _ hb with z|z<;>lia
     have ne:∀i j:Nat,i≠j→(s1.heap.objs.size+i:Nat)≠s1.heap.objs.size+j:=λi j h=>by lia
     exact⟨ne 2 4 (by lia),ne 3 4 (by lia),ne 2 3 (by lia),ne 0 1 (by lia),ne 2 0 (by lia),ne 2 1 (by lia),ne 3 0 (by lia),ne 3 1 (by lia),ne 4 0 (by lia),ne 4 1 (by lia),n1 4 (by lia),n2 4 (by lia),n1 3 (by lia),n2 3 (by lia),n2 0 (by lia),n1 1 (by lia)⟩
    ·have hk:∀k:Nat,k≤4→s1.heap.objs.size+k<h'.objs.size:=λk hk=>g_ (Nat.add_le_add_left hk _) CA
     show b<h'.objs.size;rcases aF.mp hb with hb|hb
     ·rcases aF.mp hb with hb|hb
      ·simp only[az,cF,or_false]at hb;rcases hb with rfl|rfl|rfl|rfl|rfl
       ·exact hk 4 (by decide)
       ·exact hk 2 (by decide)
       ·exact hk 3 (by decide)
       ·exact hk 0 (by decide)
       ·exact hk 1 (by decide)
      ·exact g_ (f1 _ hb) (hk 0 (by decide))
     ·rcases f2 _ hb with z|z
      ·exact fE z (hk 0 (by decide))
      ·rw[z];exact hk 1 (by decide)
    ·have kn:s1.heap.objs.size≤b:=by
      simp only[az,cF,or_false]at hb;rcases hb with rfl|rfl|rfl|rfl
      ·exact nR _ _
      ·exact nR _ _
      ·exact aD _
      ·exact nR _ _
     exact I1.fpOk kn (I1.hok.fresh kn)
   cases l with
   |true=>
    obtain⟨t1,v1,p1,_⟩:=I1.list (show SqL X.K H1 u (ns.map V.int) from Ac);obtain⟨t2,v2,uK,_⟩:=I1.list (show SqL X.K H1 v (ms.map V.int) from Ab);obtain⟨l1,e1⟩:=a1P v1;obtain⟨l2,e2⟩:=a1P v2;have lu:(u:Nat)<s1.heap.objs.size:=by obtain⟨o,ho,_⟩:=p1.isList;exact aG ho
    have lv:(v:Nat)<s1.heap.objs.size:=by obtain⟨o,ho,_⟩:=uK.isList;exact aG ho
    refine call_zip_2 p1.isList uK.isList λh' z1 z2 z3 y1 y2 _ keep=>?_
    refine fin h' [s1.heap.objs.size,u] [s1.heap.objs.size+1,v] _ _ z1 z2 z3 keep (λA hA=>(show ns.length=t1.toArray.size by simp[l1])▸(Draws.list (prog:=X.prog) (w:=X.w) (A:=A) hA s1.heap.objs.size u (a_ lu) t1.toArray).imp λi v _ h=>e1 i v (by simpa using h)) (λA hA=>(show ns.length=t2.toArray.size by simp[l2,hl])▸(Draws.list (prog:=X.prog) (w:=X.w) (A:=A) hA (s1.heap.objs.size+1) v (a_ (f_ lv)) t2.toArray).imp λi v _ h=>e2 i v (by simpa using h)) (λb hb=>?_) (λb hb=>?_) ⟨y1,p1.isList.at λo e=>keep _ o e⟩ ⟨y2,uK.isList.at λo e=>keep _ o e⟩
    ·simp only[az,cF,or_false]at hb;rcases hb with hb|hb
     ·rw[hb];exact aD _
     ·rw[hb];exact dE lu
    ·simp only[az,cF,or_false]at hb;rcases hb with hb|hb
     ·exact .inr hb
     ·rw[hb];exact .inl lv
   |false=>
    obtain⟨t1,v1,p1,_⟩:=I1.tuple (show SqT X.K H1 u (ns.map V.int) from Ac);obtain⟨t2,v2,uK,_⟩:=I1.tuple (show SqT X.K H1 v (ms.map V.int) from Ab);obtain⟨l1,e1⟩:=a1P v1;obtain⟨l2,e2⟩:=a1P v2;have q1:s1.heap.IsTuple u t1.toArray:=p1;have q2:s1.heap.IsTuple v t2.toArray:=uK;have lu:(u:Nat)<s1.heap.objs.size:=by obtain⟨o,ho,_⟩:=q1;exact aG ho
    have lv:(v:Nat)<s1.heap.objs.size:=by obtain⟨o,ho,_⟩:=q2;exact aG ho
    refine b0q q1 q2 λh' z1 z2 z3 y1 y2 keep=>?_
    refine fin h' [s1.heap.objs.size,u] [s1.heap.objs.size+1,v] _ _ z1 z2 z3 keep (λA hA=>(show ns.length=t1.toArray.size by simp[l1])▸(Draws.tup (prog:=X.prog) (w:=X.w) (A:=A) hA s1.heap.objs.size u (a_ lu) t1.toArray).imp λi v _ h=>e1 i v (by simpa using h)) (λA hA=>(show ns.length=t2.toArray.size by simp[l2,hl])▸(Draws.tup (prog:=X.prog) (w:=X.w) (A:=A) hA (s1.heap.objs.size+1) v (a_ (f_ lv)) t2.toArray).imp λi v _ h=>e2 i v (by simpa using h)) (λb hb=>?_) (λb hb=>?_) ⟨y1,let⟨o,ho,r⟩:=q1;⟨o,keep _ o ho,r⟩⟩ ⟨y2,let⟨o,ho,r⟩:=q2;⟨o,keep _ o ho,r⟩⟩
    ·simp only[az,cF,or_false]at hb;rcases hb with hb|hb
     ·rw[hb];exact aD _
     ·rw[hb];exact dE lu
    ·simp only[az,cF,or_false]at hb;rcases hb with hb|hb
     ·exact .inr hb
     ·rw[hb];exact .inl lv
end
def b4N(l:Bool):D→Option (List Int)
 |.list ds=>if l then intsOf ds else p4
 |.tuple ds=>if l then p4 else intsOf ds
 |_=>p4
def a8I(ns ms:List Int):Bool:=decide (ms.length=ns.length)&&(decide ns.Nodup&&decide (ns.length<1000000))
def ziD(ns ms:List Int):List (D×D):=(ns.zip ms).map λp=>(.int p.1,.int p.2)
noncomputable def G8(l:Bool)(fa fb:EvE):EvE:=λρ=>(fa ρ).bind λd=>(fb ρ).bind λe=>(b4N l d).bind λns=>(b4N l e).bind λms=>if a8I ns ms then el (.dict (ziD ns ms)) else p4
theorem a0r{R:V→D→List au→Prop}(h:∀m,R (V.int m) (.int m) []):∀ms:List Int,ListAll R (ms.map V.int) (ms.map ay) []
 |[]=>m3
 |m::ms=>k9 (f:=[]) (h m) (a0r h ms)
theorem a0s:∀{ns ms:List Int},ms.length=ns.length→(ziE ns ms).map (·.1)=ns.map ay∧(ziE ns ms).map (·.2.2)=ms.map V.int
 |[],[],_=>⟨rfl,rfl⟩
 |[],_::_,h=>by simp at h
 |_::_,[],h=>by simp at h
 |n::ns,m::ms,h=>by
  obtain⟨h1,h2⟩:=a0s (ns:=ns) (ms:=ms) (by simpa using h);exact⟨fC (ay n::·) h1,fC (V.int m::·) h2⟩
theorem a8J:∀{ns ms:List Int},ms.length=ns.length→ziD ns ms=(ns.map ay).zip (ms.map .int)
 |[],[],_=>rfl
 |[],_::_,h=>by simp at h
 |_::_,[],h=>by simp at h
 |n::ns,m::ms,h=>by
  have:=a8J (ns:=ns) (ms:=ms) (by simpa using h);exact fC ((ay n,ay m)::·) this
section
variable {X:Cx}{M:List Md}{a b:Expr}{fa fb:EvE}{ca cb:Cat}{pos ig p p2:ff}{K:ag}{H H':Hp}{F:List au}
def a6e{l:Bool}{d:D}{ns:List Int}{v:V}(h:b4N l d=el ns)(hd:Den K (cut H F) v d):∃u,v=.ref u∧∀H',Same (cut H F) H'→SqI K H' l u ns:=by
 cases d with
 |list ds=>
  cases l with
  |true=>
   have e:=C9 (show intsOf ds=el ns from h);subst e;obtain⟨u,xs,rfl,k1,k2⟩:=hd.list_inv;rw[M5 k2]at k1;exact⟨u,rfl,λH' s=>(T4 k1 s).l⟩
  |false=>cases h
 |tuple ds=>
  cases l with
  |false=>
   have e:=C9 (show intsOf ds=el ns from h);subst e;obtain⟨u,xs,rfl,k1,k2⟩:=hd.tup_inv;rw[M5 k2]at k1;exact⟨u,rfl,λH' s=>Q0 k1 s⟩
  |true=>cases h
 |_=>cases h
def a2J(l:Bool)(hc:X.calm=true)(hu:X.A.units+64<cV)(yk:X.mg "dict"=p4)(yj:X.mg "zip"=p4)(ha:PX X M a fa ca)(hb:PX X M b fb cb)(DT:frozen ca:=by trivial)(DS:frozen cb:=by trivial)(yB:Gl X "dict":=by rfl)(yx:Gl X "zip":=by rfl)
  (he:aw [a,b] X.env=(false,cy a X.env)::aw [b] X.env:=by rfl) (DI:aw [b] X.env=(false,cy b X.env)::aw [] X.env:=by rfl) (fJ:(cx ig (aw [b] X.env)).any (·.1)=false:=by rfl)
  (nu:aw [.Call (.Name "zip" p2) [a,b] [] ig] X.env=(false,cy (.Call (.Name "zip" p2) [a,b] [] ig) X.env)::aw [] X.env:=by rfl) (pD:(cx pos (aw [] X.env)).any (·.1)=false:=by rfl) :
  PX X M (.Call (.Name "dict" p) [.Call (.Name "zip" p2) [a,b] [] ig] [] pos) (G8 l fa fb) (.new (.d false .i)):=by
 obtain⟨ta,pa,qa⟩:=ha.out;obtain⟨tb,pb,qb⟩:=hb.out;refine .mk ⟨_,a7F (l:=l) hc (by lia) yk yj (l5 pa (l5 pb p0 DI) he) yB yx he fJ nu pD,λρ σ H P F d Q S hf q=>?_⟩;obtain⟨x,h1,g1⟩:=bnd hf;obtain⟨y,h2,g2⟩:=bnd g1;obtain⟨ns,h3,g3⟩:=bnd g2;obtain⟨ms,h4,g4⟩:=bnd g3;by_cases c:a8I ns ms=true
 ·rw[aB c]at g4;cases g4
  simp only[a8I,av,bU]at c;obtain⟨c1,c2,c3⟩:=c;refine qa ρ σ H P F _ _ S h1 λv H1 e1 r1=>?_
  obtain⟨u,rfl,su⟩:=a6e h3 (B5 DT r1);refine qb ρ σ H1 P F _ _ (S.grow e1) h2 λw H2 e2 r2=>?_
  obtain⟨u2,rfl,sw⟩:=a6e h4 (B5 DS r2);refine⟨u,u2,ns,ms,rfl,su H2 (i7.trans e2),sw H2 i7,c1,c2,fE c3 (by rw[cQ];decide),λz hz=>?_⟩;refine q _ _ ((e1.trans e2).trans (k6 hz _)) ⟨[z],?_,bt.mpr ⟨λw=>(nomatch w),bA⟩,λb hb=>?_⟩
  ·simp only[Own];refine⟨z,ziE ns ms,ms.map .int,[],rfl,i6,?_,rfl,⟨?_,λe he=>?_⟩,?_⟩
   ·rw[(a0s c1).1,a8J c1]
   ·rw[(a0s c1).1];exact List.Pairwise.map _ (λx y h e=>h (by injection e)) c2
   ·obtain⟨pr,_,rfl⟩:=aY.mp he;exact⟨v5 rfl,den_int⟩
   ·rw[(a0s c1).2];exact a0r (λm=>⟨rfl,a0j,den_int⟩) ms
  ·rw[ao.mp hb];cases hH:H z with
   |none=>rfl
   |some y=>rw[e2 _ _ (e1 _ _ hH)]at hz;cases hz
 ·rw[aI c]at g4;cases g4
end
noncomputable def a2K(i:Nat)(kt kt2:Bool)(fk fj fr fv:EvE):EvS:=λρ=>(fk ρ).bind λk=>match ρ.getD i .none with
 |.dict kvs=>if m9 kt k&&decide (kvs.length<1000000) then
   (fj (ρ.set i (.dict (n6 kvs k (.dict []))))).bind λj=>match y7 (n6 kvs k (.dict [])) k with
    |some (.dict nH)=>if m9 kt2 j&&decide (nH.length<1000000) then
      if v7 nH j then (fr (ρ.set i (.dict (n6 kvs k (.dict []))))).bind λd=>el (.rt d)
      else (fv (ρ.set i (.dict (n6 kvs k (.dict []))))).bind λd=>el (.nx ((ρ.set i (.dict (n6 kvs k (.dict [])))).set i (.dict (n8 (n6 kvs k (.dict [])) k (.dict (n8 nH j d))))))
     else p4
    |_=>p4
  else p4
 |_=>p4
section
variable {X:Cx}{M M' M2 ML:List Md}{k j j2 v:Expr}{fk fj fr fv:EvE}{ret:gM}{vU uQ zE:ff}{kt kt2:Bool}{w:Ty}{pos apos cH iz ig lR:ff}
def b2F{sts:List gM}{g:EvS}(i y:Nat){x yn:bC}{px py pz:ff}(hu:X.A.units+64<cV)(El:X.N.Nodup)(hk:PX X M k fk (.new .i))(hj:PX X M j fj (.new .i))(sW:PX X M j2 fj (.new .i))(xX:PSX X w ML M ret (n5 fr) M2)(hv:PX X M v fv (.new .i))(jq:PSsX X w ML M sts g M')
  (hN:X.N[i]?=el x:=by rfl) (yW:X.N[y]?=el yn:=by rfl) (hm:M[i]?=el (.own (.d kt (.d kt2 .i))):=by rfl) (ve:M[y]?=el .dead:=by rfl)
  (rS:Vis X.env.scope x:=by first|exact cn rfl|exact bY (cn rfl)|exact bY (bY rfl)) (hd:(x==("__debug__":bC))=false:=by decide) (iJ:(x==("__classdict__":bC))=false:=by decide)
  (zT:Vis X.env.scope yn:=by first|exact cn rfl|exact bY (cn rfl)|exact bY (bY rfl)) (wG:(yn==("__debug__":bC))=false:=by decide) (AD:(yn==("__classdict__":bC))=false:=by decide)
  (Dp:Loc X.env.scope yn:=by first|exact cn rfl|exact bY rfl) (yC:X.fn yn=true∨X.env.scope.names.lookup yn=el .local:=by first|exact .inl rfl|exact .inr rfl)
  (eK:dc (.Name x px) "setdefault" X.env (cy (.Name x px) X.env)=cy (.Name x px) X.env:=by rfl)
  (kq:((cx cH (aw [k,.Dict [] [] lR] X.env)).all (λx=>!x.1)&&(mV cH (jn [] X.env)).all (λx=>x.1.isSome)
   && decide (([k,.Dict [] [] lR]:List Expr).length+([]:List hJ).length+(if ([]:List hJ).isEmpty then 0 else 1)<30))=true:=by rfl)
  (eJ:(apos.endLine==cH.line)=true:=by rfl) (hs:aw [k,.Dict [] [] lR] X.env=(false,cy k X.env)::aw [.Dict [] [] lR] X.env:=by rfl) (xW:aw [.Dict [] [] lR] X.env=(false,cy (.Dict [] [] lR) X.env)::aw [] X.env:=by rfl)
  (gI:(cx cH (aw [.Dict [] [] lR] X.env)).any (·.1)=false:=by rfl)
  (oy:fI (.Call (.Attribute (.Name x px) "setdefault" apos) [k,.Dict [] [] lR] [] cH) (el (.Name yn pz)) pos.line X.env=pure false:=by rfl)
  (xT:fI v (el (.Subscript (.Name yn py) j2 iz)) ig.line X.env=pure false:=by rfl) (Dm:eE .In (.Name yn zE)=false:=by first|exact Y4 _|with_unfolding_all rfl) :
  PSsX X w ML M (.Assign [.Name yn pz] (.Call (.Attribute (.Name x px) "setdefault" apos) [k,.Dict [] [] lR] [] cH) pos::.If (.Compare j [.In] [.Name yn zE] vU) [ret] [] uQ::.Assign [.Subscript (.Name yn py) j2 iz] v ig::sts) (i4 (a2K i kt kt2 fk fj fr fv) g) M':=by
 obtain⟨tk,pk,qk⟩:=hk.out;obtain⟨tj,pj,qj⟩:=hj.out;obtain⟨BI,B_,BU⟩:=sW.out;obtain⟨tt,pt,qt⟩:=xX.out;obtain⟨tv,pv,qv⟩:=hv.out;obtain⟨tr,pr,qr⟩:=jq.out;refine .mk ⟨_,S8 (b0Q El yW Dp (a7g PySem.F.slot_dict_setdefault PySem.F.type_dict_setdefault (b4j hu) (C0 hN rS hd iJ) (l5 pk (l5 a5I p0 xW) hs) eK kq eJ hs gI) oy yC) (S8 (b5p (Z9 (Y7 hu) pj (C0 yW zT wG AD) Dm) (S8 pt a4q) a4q) (S8 (a8n hu (C0 yW zT wG AD) B_ pv xT) pr)),λD ρ σ H P F o S hg kk=>?_⟩;obtain⟨o1,h1,g1⟩:=bnd hg;obtain⟨y0,CD,h1⟩:=bnd h1;obtain⟨a,es,ds,fs,ha,hH,hρ,_⟩:=S.toE.dict hm;rw[hρ]at h1
 let kvs:List (VS.D×VS.D):=(es.map (·.1)).zip ds
 have lx:(if (m9 kt y0&&decide (kvs.length<1000000))=true then (fj (ρ.set i (.dict (n6 kvs y0 (.dict []))))).bind λj=>match y7 (n6 kvs y0 (.dict [])) y0 with
    |some (.dict nH)=>if m9 kt2 j&&decide (nH.length<1000000) then
      if v7 nH j then (fr (ρ.set i (.dict (n6 kvs y0 (.dict []))))).bind λd=>el (Out.rt d)
      else (fv (ρ.set i (.dict (n6 kvs y0 (.dict []))))).bind λd=>el (Out.nx ((ρ.set i (.dict (n6 kvs y0 (.dict [])))).set i (.dict (n8 (n6 kvs y0 (.dict [])) y0 (.dict (n8 nH j d))))))
     else p4
    |_=>p4
  else p4)=el o1:=h1
 by_cases c:(m9 kt y0&&decide (kvs.length<1000000))=true
 ·rw[aB c]at lx;obtain⟨j0,ug,lx⟩:=bnd lx;rw[av]at c;have mB:i<ρ.length:=by
   obtain⟨G,q1,_⟩:=S.all;obtain⟨d0,_,_,_,_,z1,_⟩:=q1.at_ hm;exact (aP.mp z1).1
  have FN:i≠y:=λz=>by
   subst z;rw[hm]at ve;cases ve
  have wx:y<σ.length:=by
   obtain⟨G,q1,_⟩:=S.all;obtain⟨_,_,_,_,_,_,z1,_⟩:=q1.at_ ve;exact (aP.mp z1).1
  have fin:∀(H1:Hp) (F1:List au) (v1:V) (d1:VS.D) (f1:List au),StR X.K M (ρ.set i (.dict (n6 kvs y0 (.dict [])))) σ H1 P F1→y7 (n6 kvs y0 (.dict [])) y0=el d1→Own X.K H1 F1 (.d kt2 .i) v1 d1 f1→f1.Nodup→(∀b∈f1,b∈F1)→
    (∀(H':Hp) (a:au) (o':MuO) (d':VS.D) (f':List au),Same H1 H'→a∈f1→Own X.K (upd H' a o'.1) F1 (.d kt2 .i) v1 d' f'→(∀b,f'.count b≤f1.count b)→StR X.K M (ρ.set i (.dict (n8 (n6 kvs y0 (.dict [])) y0 d'))) σ (upd H' a o'.1) P F1)→
    (b8k (b5q (tOp (a3n X false) tj (b3u y))) (b6a tt b0N) b0N) {D with nx:=(b6a (b5D X (b3u y) BI tv) tr) D} (σ.set y (el v1)) H1:=by
   intro H1 F1 v1 d1 f1 S1 qw ow jl q_ cl;have S2:=S1.ded ve (el v1);show tj (σ.set y (el v1)) H1 _;refine qj _ _ H1 P F1 j0 _ S2.toE ug λjv H2 e2 r2=>⟨v1,ij wx,?_⟩
   rw[qw]at lx;obtain⟨a1,j_,um,FU,EE,EO,EN,Gb,EG,Ga,qu,FI⟩:=(ow.grow e2).dict;subst EE;subst EN;have jh:(if (m9 kt2 j0&&decide (((j_.map (·.1)).zip um).length<1000000))=true then
      if v7 ((j_.map (·.1)).zip um) j0 then (fr (ρ.set i (.dict (n6 kvs y0 (.dict []))))).bind λd=>el (Out.rt d)
      else (fv (ρ.set i (.dict (n6 kvs y0 (.dict []))))).bind λd=>el (Out.nx ((ρ.set i (.dict (n6 kvs y0 (.dict [])))).set i (.dict (n8 (n6 kvs y0 (.dict [])) y0 (.dict (n8 ((j_.map (·.1)).zip um) j0 d))))))
     else p4)=el o1:=lx
   by_cases c2:(m9 kt2 j0&&decide (((j_.map (·.1)).zip um).length<1000000))=true
   ·rw[aB c2]at jh;rw[av]at c2;have S3:=S2.grow e2;refine⟨a1,j_,kt2,j0,rfl,EO,keysAt EG c2.1 r2.den,_,rfl,?_⟩;rw[lG,←v8 qu];cases AO:v7 ((j_.map (·.1)).zip um) j0 with
    |true=>
     rw[AO,aB rfl]at jh;obtain⟨dr,yI,tK⟩:=bnd jh;cases tK
     have:o=.rt dr:=(aK g1).symm;subst this;rw[aB rfl];exact qt _ _ _ H2 P F1 (.rt dr) S3 (show (fr _).bind _=_ by rw[yI];rfl) kk
    |false=>
     rw[AO]at jh;simp only[cg,dX]at jh ⊢;obtain⟨d0,DM,tK⟩:=bnd jh;cases tK
     show tv (σ.set y (el (.ref a1))) H2 _;refine qv _ _ H2 P F1 d0 _ S3.toE DM λvv H3 e3 r3=>⟨.ref a1,ij wx,BU _ _ H3 P F1 j0 _ (S3.grow e3).toE ug λzP H4 e4 r4=>?_⟩
     have S4:=S3.grow (e3.trans e4);obtain⟨vM,Cb,_⟩:=r3;obtain⟨rfl,im,dv⟩:=T6 Cb;have Cc:Own X.K H4 F1 .i vv d0 []:=by
      simp only[Own];exact⟨trivial,im,dv.up (A2 e4)⟩
     have Dx:Den X.K (cut H4 F1) zP j0:=r4.den.imm_out S4.lst j0 (T3 _ (v5 c2.1).1);obtain⟨eX,z1,z2,z3,z4,f',o',yN⟩:=b1X (fv:=[]) (ow.grow (e2.trans (e3.trans e4))) q_ (by simpa using jl) (v5 c2.1) Dx Cc;refine⟨a1,eX,kt2,j0,rfl,z1,keysAt z2 c2.1 r4.den,by rw[z3];exact fE (aN c2.2) (by rw[cQ];decide),?_⟩;have S5:=(cl H4 a1 ⟨c6 a1 (O3 eX j0 zP vv),trivial⟩ _ f' (e2.trans (e3.trans e4)) z4 o' λb=>by have:=yN b;simpa using this).ded ve (el (.ref a1));refine qr D _ _ _ P F1 o S5 ?_ kk;have g2:g ((ρ.set i (.dict (n6 kvs y0 (.dict [])))).set i (.dict (n8 (n6 kvs y0 (.dict [])) y0 (.dict (n8 ((j_.map (·.1)).zip um) j0 d0)))))=el o:=g1;rw[List.set_set]at g2;exact g2
   ·rw[aI c2]at jh;cases jh
  refine⟨.ref a,ha,⟨a,es,rfl,hH⟩,qk ρ σ H P F y0 _ S.toE CD λkv H1 w1 r1=>λz hz=>?_⟩;have w2:Same H1 (upd H1 z (c6 z [])):=k6 hz _;have S2:=S.grow (w1.trans w2);have rj:Den X.K (upd H1 z (c6 z [])) kv y0:=r1.den.up w2;have uV:A5 y0=true:=(v5 c.1).1;have An:∀{eX:List (VS.D×V×V)} {iw:List VS.D},ρ.getD i .none=.dict ((eX.map (·.1)).zip iw)→iw.length=eX.length→kvs=(eX.map (·.1)).zip iw∧eX.length<aS:=λ{eX iw} hq hl=>by
   rw[hρ]at hq
   injection hq with hq
   refine⟨hq,?_⟩;have e3:((eX.map (·.1)).zip iw).length=eX.length:=by rw[dS,ar,hl,kE]
   rw[←e3,←hq];exact fE (aN c.2) (by rw[cQ];decide)
  cases hK:v7 kvs y0 with
  |true=>
   have ri:n6 kvs y0 (.dict [])=kvs:=by unfold n6;rw[hK];rfl
   have eρ:ρ.set i (.dict kvs)=ρ:=set_same (by rw[←hρ,aM,ak mB];rfl);obtain⟨a0,eX,iw,t1,t2,t3,t4,t5,t6,t7⟩:=S2.dval (k:=y0) hm (v5 c.1);rw[ha]at t1;cases t1
   obtain⟨ek,hsz⟩:=An t3 t4;refine⟨a,eX,kt,y0,kv,.ref z,rfl,rfl,t2,keysAt t5 c.1 rj,hsz,λhf=>?_,λe he fH=>?_⟩
   ·rw[ek,v8 t4,hf]at hK;cases hK
   ·obtain⟨d1,f1,x1,x2,x3,x4,x5⟩:=t7 e he fH;refine fin _ F e.2.2 d1 f1 (by rw[ri,eρ];exact S2) (by rw[ri,ek];exact x1) x2 x3 x4 λH' a' o' d' f' sk lQ qy za=>?_
    rw[ri,ek];exact x5 H' a' o' d' f' sk lQ qy za
  |false=>
   have oz:Own X.K (upd H1 z (c6 z [])) ([z]++F) (.d kt2 .i) (.ref z) (.dict []) [z]:=by
    simp only[Own];exact⟨z,[],[],[],rfl,i6,rfl,rfl,⟨bA,λe he=>(nomatch he)⟩,m3⟩
   have P1:=(S.grow w1).pend.new w2 oz (by simp) λb hb=>by rw[ao.mp hb];exact hz
   have ri:n6 kvs y0 (.dict [])=kvs++[(y0,.dict [])]:=by unfold n6;rw[hK];rfl
   obtain⟨a0,eX,iw,vM,t1,t2,t3,t4,t5,t6,t7,t8,t9,BJ⟩:=P1.dnew (k:=y0) (kv:=kv) hm (v5 c.1) rj;rw[ha]at t1;cases t1
   obtain⟨ek,hsz⟩:=An t3 t4;have hE:r8 eX y0=false:=by rw[←v8 t4,←ek];exact hK
   refine⟨a,eX,kt,y0,kv,.ref z,rfl,rfl,t2,keysAt t5 c.1 rj,hsz,λhf=>?_,λe he fH=>?_⟩
   ·obtain⟨z',_,_,jZ,ez,zz,_,EM,_⟩:=t7.dict;cases ez
    have zQ:z∈vM:=by rw[EM];exact aj
    have Cz:z≠a:=(t9 z zQ).2;have nv:a∈[z]++F:=by
     obtain⟨_,_,PS⟩:=P1;have:=PS.lst;obtain⟨v0,f0,sk,lQ,qy⟩:=S.toE.get hm;rw[ha]at sk;cases sk
     obtain⟨a9,_,_,_,e9,_,_,f9,_⟩:=lQ.dict;cases e9
     exact ax _ (qy a (by rw[f9];exact aj))
    have key:=BJ hf;have uL:Own X.K (upd (upd H1 z (c6 z [])) a (c6 a (eX++[(y0,kv,.ref z)]))) ([z]++F) (.d kt2 .i) (.ref z) (.dict []) vM:=t7.frame (G6 nv _) _ λb hb=>f7 (t9 b hb).2
    have rU:upd (upd (upd H1 z (c6 z [])) a (c6 a (eX++[(y0,kv,.ref z)]))) z (c6 z [])=upd (upd H1 z (c6 z [])) a (c6 a (eX++[(y0,kv,.ref z)])):=b1Y (by rw[f7 Cz,i6]);refine fin _ ([z]++F) (.ref z) (.dict []) vM ?_ (by rw[ri];exact a3O uV hK) uL t8 (λb hb=>(t9 b hb).1) λH' a' o' d' f' sk lQ qy za=>?_
    ·have:=key _ z ⟨c6 z [],trivial⟩ (.dict []) vM (Same.refl _) zQ (by rw[rU];exact uL) λb=>aD _
     rw[rU,←ek,←ri]at this;exact this
    ·rw[ri,a7q uV hK,ek];exact key H' a' o' d' f' sk lQ qy za
   ·exact absurd ((KeysAt.eqv (keysAt t5 c.1 rj) he).mpr fH) (by
     unfold r8 at hE;rw[cB]at hE;exact hE e he)
 ·rw[aI c]at lx;cases lx
end
def ItV(a:au)(es:List (D×V×V)):It:=
 ⟨λi H=>H a=el (c6 a es)∧i<es.length,λi H x H'=>H'=H∧∃e,es[i]?=el e∧x=e.2.2,λi H=>H a=el (c6 a es)∧es.length≤i⟩
def b0r{P:br}{w:bL}{K:ag}{tg:Expr}(a it:au)(es:List (D×V×V))(hk:y8 es):Turn P w K tg (ItV a es) [it] it (λi h=>h.IsValIter it a i es.length es.length) where
 mem:=by simp
 obj:=λi h st b hb=>by
  cases ao.mp hb
  obtain⟨o,e,c,d⟩:=st;exact⟨o,e,λv z=>by rw[d]at z;cases z⟩
 keep:=λi h h' st k=>let⟨o,e,r⟩:=st;⟨o,k it (by simp) o e,r⟩
 item:=by
  intro X hP hw hK hc i pins s σ H E I hf st hg;subst hP hw hK;obtain⟨hH,hi⟩:=hg;obtain⟨kvs,jr,h0,hp,hlen⟩:=D3 I hH hk;have hx:es[i]?=el es[i]:=ak hi;obtain⟨⟨n,v⟩,yt,g⟩:=A4 hp hx;obtain⟨f0,f1,f2,f3,f4,f5⟩:=hf it (by simp);rw[←hlen]at st jr;refine wpAny_pyNext_values_item (knd:=dh X.prog X.w) st jr yt λh' lM sb=>?_
  have I1:Inv X pins σ H {s with heap:=h'}:=I.turned (t':=s.toks) (λb o hb e=>(sb.2 b hb).trans e) f0 f1 f3 f4 f5;rw[hlen]at lM;obtain⟨o,e,c,d⟩:=id lM;exact⟨v,rfl,a5o (s:={s with heap:=h'}) e c d (by decide) ⟨es[i].2.2,H,I1,g.2.2,⟨rfl,es[i],hx,rfl⟩,lM,λb hb=>(hf b hb).1⟩⟩
 done:=by
  intro X hP hw hK hc i pins s σ H E I hf st hg;subst hP hw hK;obtain⟨hH,hi⟩:=hg;obtain⟨kvs,jr,h0,hp,hlen⟩:=D3 I hH hk;obtain⟨f0,f1,f2,f3,f4,f5⟩:=hf it (by simp);rw[←hlen]at st jr;exact wpAny_pyNext_values_end (knd:=dh X.prog X.w) (I.ok.hd hc) st jr (dY (by lia)) λh' eb=>⟨rfl,I.turned (t':=s.toks) (λb o hb e=>eb b o hb e) f0 f1 f3 f4 f5⟩
 self:=λ_ _ _ _ _ st h=>wpAny_pyIter_valiter st h
section
variable {X:Cx}{M:List Md}{tg o:Expr}{fa:EvE}{ca:Cat}{apos cH:ff}
def c0E(to:TE):TI:=λσ H R=>to σ H λx H1=>∃p es,x=.ref p∧H1 p=el (c6 p es)∧y8 es∧R (ItV p es) H1
def b4O{to:TE}(ho:PE X o to)(eK:dc o "values" X.env (cy o X.env)=cy o X.env:=by rfl)(eJ:(apos.endLine==cH.line)=true:=by rfl):PI X tg (.Call (.Attribute o "values" apos) [] [] cH) (c0E to):=by
 intro pins s σ H R I h;refine ir eK eJ (L2.thn (ho pins s σ H _ I h) λv s1 ⟨x,H1,I1,r1,p,es,ex,hH,hk,q1⟩=>?_);subst ex;obtain rfl:v=aW p:=r1;obtain⟨kvs,jr,h0,hp,hlen⟩:=D3 I1 hH hk;refine⟨"dict","dict.values",h_,gO,rq,j6 I1 hH,J4 I1 hH,fg rfl (ja ?_)⟩;refine EX gO (j6 I1 hH) qF (pZ _) (meets_dict_values (dh X.prog X.w) p h0) ⟨⟨kvs,jr.dictOf⟩,?_⟩;refine wpAny_pyIter_values (knd:=dh X.prog X.w) ⟨_,aE _ rfl,rfl,rfl⟩ (jr.at λ_ e=>af _ e) ?_;have hz:(s1.heap.push {cls:=.type "dict_values",data:=.fields #[.ref p]}).objs.size=s1.heap.objs.size+1:=cL ..;refine⟨_,[_],_,_,H1,rfl,I1.kept (t':=s1.toks) λb o e=>af _ (af _ e),b0r p _ es hk,⟨_,aE _ rfl,rfl,by rw[hlen];rfl⟩,λb hb=>?_,q1⟩;have e:=ao.mp hb;have kn:s1.heap.objs.size≤b:=by rw[e,hz];exact eU _
 exact I1.fpOk kn (I1.hok.fresh kn)
def a7G{p:au}{es:List (D×V×V)}:Walks (ItV p es) (λH=>H p=el (c6 p es)) (es.map (·.2.2)) where
 go:=λi H h hi=>⟨h,by simpa using hi⟩
 stop:=λi H h hi=>⟨h,by simpa using hi⟩
 yld:=λi H x H' h hi y=>by
  obtain⟨e,r,hr,rfl⟩:=y;exact⟨e,by rw[aU,hr];rfl⟩
noncomputable def iVa(a:EvE):EvA:=λρ=>(a ρ).bind λd=>match d with
 |.dict kvs=>if keysOk false kvs then el (kvs.map (·.2)) else p4
 |_=>p4
def b2G(h:PX X M o fa ca)(hc:frozen ca:=by trivial)(eK:dc o "values" X.env (cy o X.env)=cy o X.env:=by rfl)(eJ:(apos.endLine==cH.line)=true:=by rfl):PIX X M tg (.Call (.Attribute o "values" apos) [] [] cH) (iVa fa):=by
 obtain⟨t,p,q⟩:=h.out;refine⟨_,b4O p eK eJ,λρ σ H P F ds R S hf k=>?_⟩;obtain⟨d,h1,h2⟩:=bnd hf;cases d with
 |dict kvs=>
  have jh:(if keysOk false kvs then el (kvs.map (·.2)) else p4)=el ds:=h2;by_cases c:keysOk false kvs=true
  ·rw[aB c]at jh;cases jh
   refine q ρ σ H P F _ _ S h1 λv H1 e1 r1=>?_
   obtain⟨aa,es,rfl,k1,k2⟩:=(B5 hc r1).dict_inv;exact⟨aa,es,rfl,i7 _ _ k1,a1z k2 c,k _ _ _ H1 e1 a7G (λH2 e2=>e2 _ _ k1) k2.vals⟩
  ·rw[aI c]at jh;cases jh
 |_=>cases h2
end
noncomputable def eIm(f:EvE):EvE:=λρ=>(f ρ).bind W9
section
variable {X:Cx}{M:List Md}{e:Expr}{f:EvE}{c:Cat}
def b7G(h:PX X M e f c):PX X M e (eIm f) (.new .i):=by
 obtain⟨t,p,q⟩:=h.out;refine .mk ⟨t,p,λρ σ H P F d Q S hf k=>?_⟩;obtain⟨x,h1,h2⟩:=bnd hf;obtain⟨rfl,hi⟩:=N8 h2;exact q ρ σ H P F _ Q S h1 λv H' e r=>k v H' e (D8 hi r.den (S.lst' e))
end
section
variable {X:Cx}{M:List Md}{a:Expr}{fa:EvE}{ca:Cat}{pos p:ff}
def call_listK(hc:X.calm=true):CallR X (.type "list") (λxs H Q=>∃p es,xs=[.ref p]∧H p=el (c6 p es)∧∀l,H l=p4→Q (.ref l) (upd H l (.lst (es.map (·.2.1))))):=by
 intro pins s σ H xs us Q I rv h;obtain⟨p,es,rfl,hH,q⟩:=h;obtain⟨u,rfl,rx⟩:=vals1 rv;cases (show u=aW p from rx)
 obtain⟨h0,hl,_,o,ents,ep,r1,r2,r3,hp,_⟩:=a0S I hH;have hlen:=cM hp;have hz:ents.size=es.length:=by rw[hlen,bW]
 refine W.kdl_call (a8r (ep:=ep) h0) (I.ok.hd hc) ⟨o,r1,r2,r3⟩ (by lia) λg1 tq ac cq keep ho pO=>?_
 refine⟨.ref s.heap.objs.size,_,I.laid (t':=tq) keep (aD _) (show ObjOk X.prog X.w _ g1 _ (.lst (es.map (·.2.1))) from⟨by rw[ar];exact hl,ac.toList,cq,?_,by rw[iU];exact ho⟩),rfl,q _ (I.hok.fresh (aD _))⟩;refine a0o (by rw[ar];have z1:=pO.1;have z2:ac.toList.length=ac.size:=bW;lia) λi x u h1 h2=>?_
 rw[bR]at h2;obtain⟨e',h3,rfl⟩:=pO.2 i u h2;rw[aU]at h1;obtain⟨e,he,rfl⟩:=cS.mp h1;obtain⟨kv,g3,g4⟩:=A4 hp he;rw[bR,h3]at g3;cases g3
 exact g4.2.1
noncomputable def a7H(a:EvE):EvE:=λρ=>(a ρ).bind λd=>match d with
 |.dict kvs=>if f6 (kvs.map (·.1)) then el (.list (kvs.map (·.1))) else p4
 |_=>p4
def b2H(hc:X.calm=true)(hm:X.mg "list"=p4)(ha:PX X M a fa ca)(hg:Gl X "list":=by rfl)(he:aw [a] X.env=(false,cy a X.env)::aw [] X.env:=by rfl)(fJ:(cx pos (aw [] X.env)).any (·.1)=false:=by rfl) :
  PX X M (.Call (.Name "list" p) [a] [] pos) (a7H fa) (.new (.l .i)):=by
 obtain⟨ta,pa,qa⟩:=ha.out;refine .mk ⟨_,J7 (call_listK hc) hg hm PyProof.Rows.Boot.«list» (l5 pa p0 he) (by decide) (by decide) he fJ,λρ σ H P F d Q S hf q=>?_⟩;obtain⟨x,h1,g1⟩:=bnd hf;cases x with
 |dict kvs=>
  have g2:(if f6 (kvs.map (·.1)) then el (gP (kvs.map (·.1))) else p4)=el d:=g1;by_cases c:f6 (kvs.map (·.1))=true
  ·rw[aB c]at g2;cases g2
   refine qa ρ σ H P F _ _ S h1 λv H1 e1 r1=>?_
   obtain⟨pp,es,rfl,k1,k2⟩:=r1.den.dict_inv;exact⟨pp,es,rfl,k1,λz hz=>q _ _ (e1.trans (k6 hz _)) (F5 (M6 k2) c e1 hz (S.lst' e1))⟩
  ·rw[aI c]at g2;cases g2
 |_=>cases g1
def a6f(hm:X.mg "len"=p4)(ha:PX X M a fa ca)(hg:Gl X "len":=by rfl)(he:aw [a] X.env=(false,cy a X.env)::aw [] X.env:=by rfl)(fJ:(cx pos (aw [] X.env)).any (·.1)=false:=by rfl) :
  PX X M (.Call (.Name "len" p) [a] [] pos) (eCl a5G (b8 fa g8)) (.new .i):=by
 obtain⟨ta,pa,qa⟩:=ha.out;refine .mk ⟨_,K1 a9A hg hm PySem.boot_len (l5 pa p0 he) (by decide) (by decide) he fJ,λρ σ H P F d Q S hf q=>?_⟩;obtain⟨xs,h1,h2⟩:=bnd hf;obtain⟨x,h3,h4⟩:=bnd h1;obtain⟨lJ,h5,h6⟩:=bnd h4;cases h5
 cases h6
 have hx:∃kvs,x=.dict kvs∧d=.int kvs.length:=by
  cases x with
  |dict kvs=>cases h2;exact⟨kvs,rfl,rfl⟩
  |_=>cases h2
 obtain⟨kvs,rfl,rfl⟩:=hx;refine qa ρ σ H P F _ _ S h3 λv H1 e1 r1=>?_
 obtain⟨pp,es,rfl,k1,k2⟩:=r1.den.dict_inv;have hlen:kvs.length=es.length:=by have:=fC iQ k2.keys;simpa using this.symm
 refine⟨pp,es,rfl,k1,?_⟩;rw[←hlen];exact q _ _ e1 (D8 a0j den_int (S.lst' e1))
end
end VS
namespace L2
open PySem
def Has.u(h:Has P w K mg base x i ps sp)(l:i≤j:=by decide):Has P w K mg base x j ps sp:=h.up l
end L2
namespace VS
open PySem PySem.Spec PyProof.Rows L2
structure DP (K:ag) (mg:bC→Option ah) (x:bC) (st:gM):Prop where
 ex:∃f fd,Fun K x x st f fd∧gB K bP x=el (el (.ref f))∧mg x=el (.ref f)
section
variable {P:br}{w:bL}{K:ag}{mg:bC→Option ah}{base h:bN}{x:bC}{st:gM}{N ps:List bC}{k n:Nat}{us:List Ty}{u wt:Ty}{g:EvS}{sp:Sp}
def b9l{f:au}{oc:ah}{od an:Option au}{ou:Array (Option ah)}{kV doc pm gd ct:ah}(X:K.In h)(G:h.Ns bP mg)(a:gB K bP x=el (el (.ref f)))(l:K.lookup f=el ⟨oc,od,.func (fS x x (P9 st) (v4 st) (i8 st) .none kV doc pm an gd ct),ou⟩)
  (c:lD K gd x=true) (k:fM K (.ref f)=true):DP K mg x st:=⟨_,_,b6w l c k,a,jQ X G a⟩
def c0F(X:K.In h)(G:h.Ns bP mg)(a:gB K bP x=el (el (.int i t))):∃t,mg x=el (.int i t):=⟨t,jQ X G a⟩
abbrev BBy(x:bC)(st:gM)(ps:List bC):Prop:=∀(kV doc pm:ah) (an:Option au) (gd ct:ah) (us:List ah),us.length=ps.length→pW (fS x x (P9 st) (v4 st) (i8 st) .none kV doc pm an gd ct) ⟨us,[]⟩=pure (ps.zip us)
def p5(d:DP K mg x st)(h:∀f fd,Fun K x x st f fd→FnOk P w K mg base CX0 k f fd ps sp)(b:BBy x st ps:=by intro _ _ _ _ _ _ us hl;first|(obtain⟨_,rfl⟩:=b9f hl;rfl)|(obtain⟨_,_,rfl⟩:=b4u hl;rfl)|(obtain⟨_,_,_,rfl⟩:=b9g hl;rfl)|(obtain⟨_,_,_,_,rfl⟩:=c0z hl;rfl)|(obtain⟨_,_,_,_,_,rfl⟩:=c0A hl;rfl)|(obtain⟨_,_,_,_,_,_,rfl⟩:=c0B hl;rfl)):Has P w K mg base x k ps sp:=by
 obtain⟨f,fd,F,a,m⟩:=d.ex;exact⟨f,fd,h f fd F,F.binds b,F.kp,m⟩
def b4P(d:DP K mg x st)(h:∀f fd,Fun K x x st f fd→gB K bP x=el (el (.ref f))→FnOk P w K mg base CX0 k f fd ps sp)(b:BBy x st ps:=by intro _ _ _ _ _ _ us hl;first|(obtain⟨_,rfl⟩:=b9f hl;rfl)|(obtain⟨_,_,rfl⟩:=b4u hl;rfl)|(obtain⟨_,_,_,rfl⟩:=b9g hl;rfl)):Has P w K mg base x k ps sp:=by
 obtain⟨f,fd,F,a,m⟩:=d.ex;exact⟨f,fd,h f fd F a,F.binds b,F.kp,m⟩
def fnF(F:Fun K x x st f fd)(N:List bC)(hb:∀(S:FnScope N ps (i8 st)) (gd:ah) (A:bD) (outer:List n_) (s:ai) (H:Hp) (E:XK),Room k (A.deeper (iY x (i8 st) s.heap.objs.size f gd))→PSsX (a0a CX0 P w K mg base N x (i8 st) f gd A outer s H E).nox u [] (us.map .own++aO n .dead) (v4 st) g [])
  (S:FnScope N ps (i8 st):=by exact⟨rfl,rfl,rfl,by decide +kernel,rfl,by decide +kernel,by decide +kernel⟩) (mO:us.length=ps.length:=by rfl) (hn:N.length=ps.length+n:=by rfl):FnOk P w K mg base CX0 (k+1) f fd ps (spD K ps.length (fnD us n g) u):=b4c F S mO hn (hb S)
def b9m(F:Fun K x x st f fd)(N:List bC)(M':List Md)(hb:∀(S:FnScope N ps (i8 st)) (gd:ah) (A:bD) (outer:List n_) (s:ai) (H:Hp) (E:XK),Room k (A.deeper (iY x (i8 st) s.heap.objs.size f gd))→PSsX (a0a CX0 P w K mg base N x (i8 st) f gd A outer s H E).nox .i [] (us.map .own++aO n .dead) (v4 st) g M')
  (S:FnScope N ps (i8 st):=by exact⟨rfl,rfl,rfl,by decide +kernel,rfl,by decide +kernel,by decide +kernel⟩) (mO:us.length=ps.length:=by rfl) (hn:N.length=ps.length+n:=by rfl):FnOk P w K mg base CX0 (k+1) f fd ps (spD K ps.length (fnN us n g) .i):=b1C F S mO hn (hb S)
def b9n{Φ:(List D→Option D)→Hp→V→Prop}{g:(List D→Option D)→EvS}(F:Fun K x x st f fd)(N:List bC)(hb:∀(S:FnScope N ps (i8 st)) (gm:List D→Option D) (gd:ah) (A:bD) (outer:List n_) (s:ai) (H:Hp) (E:XK),Room k (A.deeper (iY x (i8 st) s.heap.objs.size f gd))→PSsX (a0a CX0 P w K mg base N x (i8 st) f gd A outer s H E).nox u [] (us.map .own++(.fn (Φ gm)::aO n .dead)) (v4 st) (g gm) [])
  (S:FnScope N ps (i8 st):=by exact⟨rfl,rfl,rfl,by decide +kernel,rfl,by decide +kernel,by decide +kernel⟩) (mO:us.length+1=ps.length:=by rfl) (hn:N.length=ps.length+n:=by rfl) (hj:j=us.length:=by rfl):FnOk P w K mg base CX0 (k+1) f fd ps (spL K j Φ (fnL us n g) u):=hj▸b2g (M':=λ_=>[]) F S mO hn (hb S)
def c0G(F:Fun K x x st f fd)(N:List bC)(lt:(B0 K x).isSome=true)(X:K.In base)(G:base.Ns bP mg)(a:gB K bP x=el (el (.ref f)))(hb:∀(S:FnScope N ps (i8 st)) (c:au) (p:au) (hc:fd.code=.ref c) (hp:B0 K x=el p) (hd:gq base c p) (A:bD) (outer:List n_) (s:ai) (H:Hp) (E:XK),Room k (A.deeper (iY x (i8 st) s.heap.objs.size f fd.code))→PSsX (a0a CX0 P w K mg base N x (i8 st) f fd.code A outer s H E).nox u [] (us.map .own++aO n .dead) (v4 st) g [])
  (S:FnScope N ps (i8 st):=by exact⟨rfl,rfl,rfl,by decide +kernel,rfl,by decide +kernel,by decide +kernel⟩) (mO:us.length=ps.length:=by rfl) (hn:N.length=ps.length+n:=by rfl):FnOk P w K mg base CX0 (k+1) f fd ps (spD K ps.length (fnD us n g) u):=by
 obtain⟨oc,od,kV,doc,pm,an,gd,ct,ou,e,lk,iJ⟩:=F.ex;obtain⟨c,p,h1,h2,h3⟩:=b2k lt X G a lk;exact b2j F S mO hn (hb S c p h1 h2 h3)
def b7H(yE:mg x=el (.ref fa))(d:DP K mg x st)(h:∀base:bN,K.In base→base.Ns bP mg→∀fd,Fun K x x st fa fd→FnOk P w K mg base CX0 k fa fd [p] sp)(b:∀(kV doc pm:ah) (an:Option au) (gd ct v:ah),pW (fS x x (P9 st) (v4 st) (i8 st) .none kV doc pm an gd ct) ⟨[v],[]⟩=pure [(p,v)]:=by intros;rfl) :
  ∃fd:dC,(∀(s:ai) (v:ah),nF s fd ⟨[v],[]⟩ [(p,v)])∧∀base:bN,K.In base→base.Ns bP mg→FnOk P w K mg base CX0 k fa fd [p] sp:=by
 obtain⟨f,fd,F,a,m⟩:=d.ex;rw[yE]at m;cases m
 refine⟨fd,λs v=>?_,λbase X G=>h base X G fd F⟩;obtain⟨oc,od,kV,doc,pm,an,gd,ct,ou,rfl,lk,iJ⟩:=F.ex;exact .of_eq (b kV doc pm an gd ct v)
end
section
variable {X:Cx}{M:List Md}{e e0:Expr}{es:List Expr}{fe:EvE}{f:EvA}{c:Cat}{u:Ty}{pos p:ff}{x:bC}
abbrev mdF:Md:=.own .f
abbrev mdI:Md:=.own .i
abbrev mdL:Md:=.own (.l .i)
abbrev L3:Md:=.own (.l (.l .i))
abbrev mdD:Md:=.dead
def e7(i:Nat)(hN:X.N[i]?=el x:=by rfl)(hv:Vis X.env.scope x:=by first|exact cn rfl|exact bY (cn rfl)|exact bY (bY rfl))(hd:(x==("__debug__":bC))=false:=by decide)(iJ:(x==("__classdict__":bC))=false:=by decide)(hm:M[i]?=el (.own .f):=by rfl):PX X M (.Name x pos) (b7 i) (.bor .f):=K7 i hN hv hd iJ hm
def c9(i:Nat)(hN:X.N[i]?=el x:=by rfl)(hv:Vis X.env.scope x:=by first|exact cn rfl|exact bY (cn rfl)|exact bY (bY rfl))(hd:(x==("__debug__":bC))=false:=by decide)(iJ:(x==("__classdict__":bC))=false:=by decide)(hm:M[i]?=el (.own .i):=by rfl):PX X M (.Name x pos) (b7 i) (.bor .i):=K7 i hN hv hd iJ hm
def E9(i:Nat)(hN:X.N[i]?=el x:=by rfl)(hv:Vis X.env.scope x:=by first|exact cn rfl|exact bY (cn rfl)|exact bY (bY rfl))(hd:(x==("__debug__":bC))=false:=by decide)(iJ:(x==("__classdict__":bC))=false:=by decide)(hm:M[i]?=el (.own (.l .i)):=by rfl):PX X M (.Name x pos) (b7 i) (.bor (.l .i)):=K7 i hN hv hd iJ hm
def B4(i:Nat)(hN:X.N.Nodup)(hi:X.N[i]?=el x:=by rfl)(hx:Loc X.env.scope x:=by first|exact cn rfl|exact bY rfl)(hf:X.fn x=true∨X.env.scope.names.lookup x=el .local:=by first|exact .inl rfl|exact .inr rfl|assumption):PG X (.Name x pos) (S9 i):=x0 hN hi hx hf
def E5(hm:X.mg "len"=p4)(h:PX X M e fe c)(hg:Gl X "len":=by rfl)(he:aw [e] X.env=(false,cy e X.env)::aw [] X.env:=by rfl)(fJ:(cx pos (aw [] X.env)).any (·.1)=false:=by rfl):PX X M (.Call (.Name "len" p) [e] [] pos) (eCl y6 (b8 fe g8)) (.new .i):=a6R b6E hm PySem.boot_len (i5 h m6 he) hg (by decide) (by decide) he fJ
def D4(W:Has X.prog X.w X.K X.mg X.base x k ps (spD X.K n m u))(hr:Room k X.A)(h:PAX X M (e0::es) f)(hu:u.shut=true:=by rfl)(hl:(e0::es).length=n:=by rfl)(hfl:∀ρ ds,f ρ=el ds→ds.length=(e0::es).length:=by first|exact j7 C6|exact j7 (j7 C6)|exact j7 (j7 (j7 C6))|exact j7 (j7 (j7 (j7 C6)))|exact j7 (j7 (j7 (j7 (j7 C6)))))
  (hg:Gl X x:=by rfl) (kM:(x==("__debug__":bC))=false:=by decide) (he:aw (e0::es) X.env=(false,cy e0 X.env)::aw es X.env:=by rfl) (fJ:(cx pos (aw es X.env)).any (·.1)=false:=by rfl) :
  PX X M (.Call (.Name x p) (e0::es) [] pos) (eCl m f) (.new u):=b3Z W hr h hu hl hfl hg kM he fJ
def I9(hu:X.A.units+64<cV:=by exact Room.units (by assumption)):OpS X (bS .Eq) dEq:=os_eq hu
def a2L(hu:X.A.units+64<cV:=by exact Room.units (by assumption)):OpS X (bS .NotEq) dNe:=b8y hu
end
end VS
namespace VS
open PySem L2
section
variable {a b c:EvE}{ρ:List D}{d x y:D}
def chE(g':D→D→Option D):Option D→Option D→EvE→List D→Option D
 |some (.bool true),el y,c,ρ=>l2 g' (el y) (c ρ)
 |some (.bool false),el _,_,_=>el (.bool false)
 |_,_,_,_=>p4
def c0H:eCh g g' a b c ρ=chE g' (l2 g (a ρ) (b ρ)) (b ρ) c ρ:=by
 unfold eCh;cases a ρ with
 |none=>rfl
 |some x=>
  cases b ρ with
  |none=>rfl
  |some y=>
   show (g x y).bind _=chE g' (g x y) (el y) c ρ;cases g x y with
   |none=>rfl
   |some z=>
    cases z with
    |bool k=>
     cases k with
     |false=>rfl
     |true=>cases h:c ρ<;>simp[chE,asB,h,l2]
    |_=>rfl
def b9o:chE g' (el (.bool true)) (el y) c ρ=l2 g' (el y) (c ρ):=rfl
def b9p:chE g' (el (.bool false)) (el y) c ρ=el (.bool false):=rfl
def c0I:(true==true)=true:=rfl
def c0J:(true==false)=false:=rfl
def c0K:(false==true)=false:=rfl
def c0L:(false==false)=true:=rfl
def c0M:(true !=true)=false:=rfl
def c0N:(true !=false)=true:=rfl
def c0O:(false !=true)=true:=rfl
def c0P:(false !=false)=false:=rfl
def trB:tr (.bool k)=el k:=rfl
def b9q:asB (.bool k)=el k:=rfl
def b2I:isN .none=true:=rfl
def b4Q:isN (.int i)=false:=rfl
def b2J:isN (.bool i)=false:=rfl
def b2K:isN (.list ds)=false:=rfl
def b4R:isN (.tuple ds)=false:=rfl
def b7I:N1 k x .none=el (.bool (k !=isN x)):=rfl
def b0s:isInt (.int i)=true:=rfl
def a7I:isInt (.bool i)=true:=rfl
def a7J:isInt .none=false:=rfl
def a7K:isInt (.list ds)=false:=rfl
def b0t:isInt (.tuple ds)=false:=rfl
def b0u:isInt (.str s)=false:=rfl
def a7L:isInt (.dict s)=false:=rfl
def a7M:isBool (.int i)=false:=rfl
def a6g:isBool (.bool i)=true:=rfl
def a6h:isBool .none=false:=rfl
def a6i:isBool (.list ds)=false:=rfl
def a7N:isBool (.tuple ds)=false:=rfl
def a7O:isBool (.str s)=false:=rfl
def a6j:isBool (.dict s)=false:=rfl
def isList_list:isList (.list ds)=true:=rfl
def isList_int:isList (.int i)=false:=rfl
def a6k:isList .none=false:=rfl
def isList_bool:isList (.bool i)=false:=rfl
def a7P:isList (.tuple ds)=false:=rfl
def isList_str:isList (.str s)=false:=rfl
def isList_dict:isList (.dict s)=false:=rfl
def a6l:a4I (.tuple ds)=true:=rfl
def isTuple_list:a4I (.list ds)=false:=rfl
def isTuple_int:a4I (.int i)=false:=rfl
def lIs:Option D→Option D
 |some d=>b1m d
 |none=>p4
def b2L:eI a ρ=lIs (a ρ):=by unfold eI;cases a ρ<;>rfl
def b2M(h:f6 ds=true):lIs (el (.list ds))=el (.list ds):=by
 show (if f6 ds=true then el (gP ds) else p4)=_;rw[aB h]
def b0v:Option D→Option D
 |some (.list ds)=>el (.list ds)
 |some (.tuple ds)=>el (.list ds)
 |_=>p4
def a4Z:L7 a ρ=b0v (a ρ):=by
 unfold L7;cases a ρ with
 |none=>rfl
 |some d=>cases d<;>rfl
def b9r:b0v (el (.list ds))=el (.list ds):=rfl
def b9s:b0v (el (.tuple ds))=el (.list ds):=rfl
def lL:Option D→Option (List D)
 |some d=>asL d
 |none=>p4
def b4S:iL a ρ=lL (a ρ):=by unfold iL;cases a ρ<;>rfl
def c0Q:lL (el (.list ds))=el ds:=rfl
def lII:Option (List D)→Option (List D)
 |some ds=>if f6 ds then el ds else p4
 |none=>p4
def b9t:iI f ρ=lII (f ρ):=by unfold iI;cases f ρ<;>rfl
def a0X(h:f ρ=el ds)(hi:f6 ds=true):iI f ρ=el ds:=by rw[b9t,h];show (if f6 ds=true then el ds else p4)=_;rw[aB hi]
def Q9{ds:List D}(h:ds.length<1000000):a9v i (.list ds) (el d) ρ=el (.nx (ρ.set i (.list (ds++[d])))):=b7h h
def b7J:x9 i ρ d=el (ρ.set i d):=rfl
def b7K:a9r i j ρ (.tuple [x,y])=el ((ρ.set i x).set j y):=rfl
def b9u:pt1 d=el [d]:=rfl
def b9v:pt2 (.tuple [x,y])=el [x,y]:=rfl
def c0R:tT ρ=el true:=rfl
end
def a0t(P:List D→Prop)(h1:∃ρ,o=el (.nx ρ)∧P ρ)(h2:∀ρ,P ρ→a2n (s ρ)=R):a2n (thn o s)=R:=by
 obtain⟨ρ,rfl,h⟩:=h1;exact h2 ρ h
def U1{R:Option D→Prop}(P:List D→Prop)(h1:∃ρ,o=el (.nx ρ)∧P ρ)(h2:∀ρ,P ρ→R (a2n (s ρ))):R (a2n (thn o s)):=by
 obtain⟨ρ,rfl,h⟩:=h1;exact h2 ρ h
theorem a6m(f:D→D):∀{ds:List D},(∀d∈ds,∃bs,pt d=el bs∧g (bs++cs)=el (f d))→L8 pt tT g cs ds=el (ds.map f)
 |[],_=>rfl
 |d::ds,h=>by
  obtain⟨bs,h1,h2⟩:=h d aj;have ih:=a6m f (ds:=ds) λe he=>h e (aq _ he)
  show (pt d).bind _=_;rw[h1];show (g (bs++cs)).bind _=_;rw[h2];show (L8 pt tT g cs ds).bind _=_;rw[ih];rfl
def b7L{js:List Nat}(f:D→D)(hf:fi ρ=el ds)(hl:ds.length≤1000000)(h:∀d∈ds,∃bs,pt d=el bs∧g (bs++js.map λj=>ρ.getD j .none)=el (f d)) :
  l0 fi js pt tT g ρ=el (.list (ds.map f)):=by
 unfold l0;rw[hf];show (if ds.length≤1000000 then _ else p4)=_;rw[aB hl,a6m f h];rfl
theorem r9(f:α→D)(h:∀x,imm (f x)=true):∀xs:List α,f6 (xs.map f)=true
 |[]=>by simp only[cU,f6]
 |x::xs=>by simp only[aA,f6,h x,r9 f h xs,fV]
end VS
namespace Prog
open PySem L2 VS
abbrev iD(ns:List Int):D:=.list (ns.map .int)
end Prog
namespace VS
open PySem L2
mutual
theorem eqv_refl:∀d:D,d.canLay0=true→aJ d d=true
 |.none,_=>by simp[aJ]
 |.bool b,_=>by simp[aJ]
 |.int i,_=>by simp[aJ]
 |.str x,_=>by simp[aJ]
 |.list xs,h=>by
  simp only[eN]at h;simp only[aJ];exact eqvAll_refl xs h
 |.tuple xs,h=>by
  simp only[eN]at h;simp only[aJ];exact eqvAll_refl xs h
 |.dict _,h=>by simp[eN]at h
theorem eqvAll_refl:∀xs:List D,be xs=true→de xs xs=true
 |[],_=>by simp only[de]
 |x::xs,h=>by
  simp only[be,av]at h;simp only[de,av];exact⟨eqv_refl x h.1,eqvAll_refl xs h.2⟩
end
def b9w{a b:D}(ha:a.canLay0=true)(hb:b.canLay0=true)(hd:a.depth≤60):dEq a b=el (.bool (aJ a b)):=by
 unfold dEq a9j;rw[ha,hb,aH hd];simp
def b5G{a b:D}(ha:a.canLay0=true)(hb:b.canLay0=true)(hd:a.depth≤60):dNe a b=el (.bool (!aJ a b)):=by
 unfold dNe a9j;rw[ha,hb,aH hd];simp
def b9x{a:D}(ha:a.canLay0=true)(hd:a.depth≤60):dNe a a=el (.bool false):=by rw[b5G ha ha hd,eqv_refl a ha];rfl
theorem a0u(f:α→D)(h:∀x,(f x).canLay0=true):∀xs:List α,be (xs.map f)=true
 |[]=>by simp only[cU,be]
 |x::xs=>by simp only[aA,be,h x,a0u f h xs,fV]
theorem O8(f:α→D)(n:Nat)(h:∀x,(f x).depth≤n):∀xs:List α,dA (xs.map f)≤n
 |[]=>by simp only[cU,dA];exact bI _
 |x::xs=>by
  simp only[aA,dA];exact Nat.max_le.mpr ⟨h x,O8 f n h xs⟩
def a5a:(ay i).canLay0=true:=by simp only[eN]
def W2:(ay i).depth=0:=by simp only[gg]
def lay_ints(ns:List Int):(gP (ns.map .int)).canLay0=true:=by
 simp only[eN];exact a0u _ (λ_=>a5a) ns
def a2M(ns:List Int):(gP (ns.map .int)).depth≤1:=by
 simp only[gg];have:=O8 ay 0 (λx=>by rw[W2];exact aD _) ns;lia
theorem a0v:∀(xs ys:List Int),de (xs.map ay) (ys.map ay)=decide (xs=ys)
 |[],[]=>by simp[de]
 |[],_::_=>by simp[de]
 |_::_,[]=>by simp[de]
 |x::xs,y::ys=>by
  have:aJ (.int x) (.int y)=decide (x=y):=by
   show (x==y)=decide (x=y);exact iy x y
  simp only[aA,de,this,a0v xs ys,Gn];by_cases h1:x=y<;>by_cases h2:xs=ys<;>simp[h1,h2]
def b9y{xs ys:List Int}:dEq (.list (xs.map .int)) (.list (ys.map .int))=el (.bool (decide (xs=ys))):=by
 rw[b9w (lay_ints _) (lay_ints _) (cw (a2M _) (by decide))];simp only[aJ,a0v]
def b9z{xs ys:List Int}:dNe (.list (xs.map .int)) (.list (ys.map .int))=el (.bool (!decide (xs=ys))):=by
 rw[b5G (lay_ints _) (lay_ints _) (cw (a2M _) (by decide))];simp only[aJ,a0v]
theorem a3X(f:α→Bool):∀xs:List α,a1k (xs.map λx=>df (f x))=el (xs.map f)
 |[]=>rfl
 |x::xs=>by
  show (a1k (xs.map λx=>df (f x))).map (f x::·)=_;rw[a3X f xs];rfl
def v_all(f:α→Bool)(xs:List α):a9l [.list (xs.map λx=>df (f x))]=el (.bool (xs.all f)):=by
 show (a1k (xs.map λx=>df (f x))).map (λbs=>df (bs.all id))=_;rw[a3X];simp[List.all_map]
def a8K{xs:List Int}:lIs (el (.list (xs.map .int)))=el (.list (xs.map .int)):=b2M (w8 _)
def b9A:Option D→Option D
 |some (.list ds)=>W9 (.tuple ds)
 |some (.tuple ds)=>W9 (.tuple ds)
 |_=>p4
def a0Y:w6 a ρ=b9A (a ρ):=by
 unfold w6;cases a ρ with
 |none=>rfl
 |some d=>cases d<;>rfl
def O9{xs:List Int}:b9A (el (.list (xs.map .int)))=el (.tuple (xs.map .int)):=b1A (by simp only[imm];exact w8 xs)
def a1Q:aJ (.int x) (.int y)=decide (x=y):=by
 show (x==y)=decide (x=y);exact iy x y
def b9B:dNe (.bool a) (.bool b)=el (.bool (a !=b)):=by
 show el (df (true !=aJ (.bool a) (.bool b)))=_;cases a<;>cases b<;>rfl
def at0{α:Type}{x:α}{xs:List α}:L2.atI (x::xs) 0=el x:=by
 unfold L2.atI ixN;rw[aB (by decide),aB (by simp only[bh];lia)];rfl
def at1{α:Type}{x y:α}{xs:List α}:L2.atI (x::y::xs) 1=el y:=by
 unfold L2.atI ixN;rw[aB (by decide),aB (by simp only[bh];lia)];rfl
def P0{enc:α→D}{set:List D→D→Option (List D)}{xs:List α}(I:List α→List D→Prop)(h0:I [] ρ)
  (step:∀pre x post,xs=pre++x::post→∀ρ,I pre ρ→∃ρ1 ρ2,set ρ (enc x)=el ρ1∧g ρ1=el (.nx ρ2)∧I (pre++[x]) ρ2) :
  ∃ρ',O1 set g (xs.map enc) ρ=el (.nx ρ')∧I xs ρ':=by
 have key:∀(post pre:List α) (ρ:List D),xs=pre++post→I pre ρ→∃ρ',O1 set g (post.map enc) ρ=el (.nx ρ')∧I xs ρ':=by
  intro post
  induction post with
  |nil=>
   intro pre ρ e h;rw[bE]at e;subst e;exact⟨ρ,rfl,h⟩
  |cons x post ih=>
   intro pre ρ e h;obtain⟨ρ1,ρ2,h1,h2,h3⟩:=step pre x post e ρ h;obtain⟨ρ',h4,h5⟩:=ih (pre++[x]) ρ2 (by rw[e,bp];rfl) h3;refine⟨ρ',?_,h5⟩;show (set ρ (enc x)).bind _=_;rw[h1];show (g ρ1).bind _=_;rw[h2];exact h4
 exact key xs [] ρ rfl h0
def a3Y:F6 0 n=(aX n).map λ(k:Nat)=>ay k:=by
 unfold F6;refine cD λk _=>?_
 show ay (0+(k:Int))=.int k;rw[Int.zero_add]
def a1B(h:aX n=pre++x::post):x=pre.length∧x<n∧pre=aX x:=by
 have hx:(aX n)[pre.length]?=el x:=by rw[h];simp
 have hW:pre.length<n:=by have:=fC iQ h;simp at this;lia
 rw[lV hW]at hx;have e:x=pre.length:=(aK hx).symm;refine⟨e,by lia,?_⟩;have:=fC (List.take pre.length) h;rw[List.take_append_of_le_length (aD _),ki,List.take_range,Nat.min_eq_left (by lia)]at this;rw[e,this]
def L4{set:List D→D→Option (List D)}(I:Nat→List D→Prop)(h0:I 0 ρ)
  (step:∀k,k<n→∀ρ,I k ρ→∃ρ1 ρ2,set ρ (.int k)=el ρ1∧g ρ1=el (.nx ρ2)∧I (k+1) ρ2) :
  ∃ρ',O1 set g (F6 0 n) ρ=el (.nx ρ')∧I n ρ':=by
 rw[a3Y];obtain⟨ρ',h1,h2⟩:=P0 (enc:=λ(k:Nat)=>ay k) (set:=set) (g:=g) (xs:=aX n) (ρ:=ρ) (λpre ρ=>I pre.length ρ) h0 λpre x post e ρ h=>by
  obtain⟨e1,e2,_⟩:=a1B e;subst e1;obtain⟨ρ1,ρ2,a,b,c⟩:=step pre.length e2 ρ h;exact⟨ρ1,ρ2,a,b,by rw[bg];exact c⟩
 rw[gc]at h2;exact⟨ρ',h1,h2⟩
def big:Int:=10^60
def b2N:1000<big:=by decide
abbrev m4:=List (List (Int×Int))
def stD(p:Int×Int):D:=.tuple [.int p.1,.int p.2]
def rwD(r:List (Int×Int)):D:=.list (r.map stD)
def rowAt(m:m4)(s:Int):List (Int×Int):=m.getD s.toNat []
def stp(m:m4)(s a:Int):Int×Int:=(rowAt m s).getD a.toNat (0,0)
structure WF (m:m4) (k:Nat):Prop where
 pos:0<m.length
 le:m.length≤30
 k1:1≤k
 k5:k≤5
 rows:∀r∈m,r.length=k
 next:∀r∈m,∀p∈r,0≤p.2∧p.2<(m.length:Int)
def a3Z{m:m4}{s:Int}(h0:0≤s)(h1:s<m.length):rowAt m s∈m:=by
 unfold rowAt;rw[aM,ak (by lia)];exact cG _
def WF.row{m:m4}{k:Nat}(w:WF m k){s:Int}(h0:0≤s)(h1:s<m.length):(rowAt m s).length=k:=w.rows _ (a3Z h0 h1)
def b4T{m:m4}{k:Nat}(w:WF m k){s a:Int}(h0:0≤s)(h1:s<m.length)(h2:0≤a)(h3:a<k):stp m s a∈rowAt m s:=by
 have:=w.row h0 h1;unfold stp;rw[aM,ak (by lia)];exact cG _
def WF.nx{m:m4}{k:Nat}(w:WF m k){s a:Int}(h0:0≤s)(h1:s<m.length)(h2:0≤a)(h3:a<k):0≤(stp m s a).2∧(stp m s a).2<(m.length:Int):=w.next _ (a3Z h0 h1) _ (b4T w h0 h1 h2 h3)
def b4U{m:m4}{s:Int}(h0:0≤s)(h1:s<m.length):L2.atI (m.map rwD) s=el (rwD (rowAt m s)):=by
 rw[a4N h0 (by rw[ar];exact h1),iG];unfold rowAt;rw[aM,ak (by lia)];rfl
def b9C{r:List (Int×Int)}{a:Int}(h0:0≤a)(h1:a<r.length):dIx (rwD r) (.int a)=el (stD (r.getD a.toNat (0,0))):=by
 show L2.atI (r.map stD) a=_;rw[a4N h0 (by rw[ar];exact h1),iG,aM,ak (by lia)];rfl
def b9D:dIx (stD p) (.int 0)=el (.int p.1):=rfl
def b9E:dIx (stD p) (.int 1)=el (.int p.2):=rfl
def a7Q:imm (stD p)=true:=by unfold stD;simp only[imm,f6,fV]
def b7M:W9 (stD p)=el (stD p):=b1A a7Q
def b4V:W9 (.int i)=el (.int i):=b1A a0j
def b9F:y6 [rwD r]=el (.int r.length):=by
 show el (ay ((r.map stD).length:Nat))=_;rw[ar]
def b4W:b1y i j (el (stD p)) ρ=el (.nx ((ρ.set i (.int p.1)).set j (.int p.2))):=rfl
def b7N(p:Int×Int):(stD p).canLay0=true:=by unfold stD;simp[eN,be]
def b7O(r:List (Int×Int)):(rwD r).canLay0=true:=by unfold rwD;simp only[eN];exact a0u _ b7N r
def b2O(m:m4):(gP (m.map rwD)).canLay0=true:=by simp only[eN];exact a0u _ b7O m
def b2P(p:Int×Int):(stD p).depth≤1:=by unfold stD;simp[gg,dA]
def b2Q(r:List (Int×Int)):(rwD r).depth≤2:=by
 unfold rwD;simp only[gg];have:=O8 stD 1 b2P r;lia
def a7R(m:m4):(gP (m.map rwD)).depth≤60:=by
 simp only[gg];have:=O8 rwD 2 b2Q m;lia
def neM{m:m4}:dNe (.list (m.map rwD)) (.list (m.map rwD))=el (.bool false):=b9x (b2O m) (a7R m)
def b7P:Option Out→Option D
 |some (.rt d)=>el d
 |some (.nx _)=>el .none
 |_=>p4
def b5H(h:argsOk us ds=true):fnN us n g ds=b7P (g (ds++aO n .none)):=by
 unfold fnN;rw[aB h];cases g (ds++aO n .none) with
 |none=>rfl
 |some o=>cases o<;>rfl
def a5b:b7P (el (.nx ρ))=el .none:=rfl
def a5c:b7P (el (.rt d))=el d:=rfl
def b7Q:b0v (el (rwD r))=el (rwD r):=rfl
def b9G:lIs (el (rwD r))=el (rwD r):=b2M (r9 _ (λ_=>a7Q) r)
def b7R{m:m4}(h:a ρ=el (.list (m.map rwD)))(hl:m.length≤1000):l0 (iL a) [] pt1 tT (eI (L7 (b7 0))) ρ=el (.list (m.map rwD)):=by
 rw[b7L (ds:=m.map rwD) id]
 ·rw[List.map_id]
 ·rw[b4S,h];rfl
 ·rw[ar];lia
 ·intro d hd;obtain⟨r,_,rfl⟩:=aY.mp hd;refine⟨_,rfl,?_⟩;show eI (L7 (b7 0)) [rwD r]=el (rwD r);rw[b2L,a4Z];show lIs (b0v (el (rwD r)))=_;rw[b7Q,b9G]
end VS
namespace Prog
open PySem L2 VS
def top(i:Nat):gM:=PySem.Challenge.pw_probewell_k46_stuck_or_a_tree.main.body.getD i (.Pass ⟨0,0,0,0⟩)
structure Bn (K:ag) (mg:bC→Option ah):Prop where
 d0:DP K mg "_law_cell_at" (top 29)
 d1:DP K mg "_law_cells" (top 30)
 d2:DP K mg "_law_copied" (top 32)
 d3:DP K mg "_law_answer" (top 31)
 d4:DP K mg "_law_machine" (top 33)
 d5:DP K mg "need_few_states" (top 15)
 d6:DP K mg "sets_of" (top 18)
 d7:DP K mg "least_telling" (top 25)
 d8:DP K mg "found_in_round" (top 6)
 d9:DP K mg "found_in_rounds" (top 5)
 d10:DP K mg "asks_of" (top 11)
 d11:DP K mg "parted_by" (top 27)
 d12:DP K mg "sets_behind" (top 26)
 d13:DP K mg "least_asks" (top 24)
 d14:DP K mg "stuck" (top 21)
 d15:DP K mg "_law_sets" (top 34)
 d16:DP K mg "_law_free" (top 35)
 d17:DP K mg "is_list_up_to" (top 12)
 d18:DP K mg "is_whole" (top 8)
 d19:DP K mg "is_below" (top 9)
 d20:DP K mg "is_set" (top 17)
 d21:DP K mg "need_set" (top 16)
 d22:DP K mg "grown" (top 23)
 d23:DP K mg "tree_of_set" (top 22)
 d24:DP K mg "tree_of" (top 20)
 d25:DP K mg "law" (top 36)
 all_:mg "all"=p4
 bool_:mg "bool"=p4
 dict_:mg "dict"=p4
 enumerate_:mg "enumerate"=p4
 int_:mg "int"=p4
 isinstance_:mg "isinstance"=p4
 len_:mg "len"=p4
 list_:mg "list"=p4
 range_:mg "range"=p4
 set_:mg "set"=p4
 sorted_:mg "sorted"=p4
 tuple_:mg "tuple"=p4
 zip_:mg "zip"=p4
 MOST_FOR_SETS_:∃t,mg "MOST_FOR_SETS"=el (.int 7 t)
structure Bk (P:br) (w:bL) (K:ag) (mg:bC→Option ah) (base:bN):Prop extends Bn K mg
variable {P:br}{w:bL}{K:ag}{mg:bC→Option ah}{base:bN}
abbrev HB(_:Bk P w K mg base):=Has P w K mg base
def c0S:(["_law_t","_law_many","_law_rows","_law_cell"]:List bC).Nodup:=by decide +kernel
def c0T:(["held","state"]:List bC).Nodup:=by decide +kernel
def c0U:(["part","found"]:List bC).Nodup:=by decide +kernel
def c0V:(["thing","newer"]:List bC).Nodup:=by decide +kernel
def c0W:(["part"]:List bC).Nodup:=by decide +kernel
def c0X:(["states","told"]:List bC).Nodup:=by decide +kernel
def c0Y:(["_law_one","_law_s"]:List bC).Nodup:=by decide +kernel
def c0Z:(["state","states"]:List bC).Nodup:=by decide +kernel
def c1a:(["_law_row"]:List bC).Nodup:=by decide +kernel
def b9H:(["_law_one"]:List bC).Nodup:=by decide +kernel
def b9I:(["_law_ask","_law_table","_law_known","_law_one"]:List bC).Nodup:=by decide +kernel
def b9J:(["_law_t","_law_s"]:List bC).Nodup:=by decide +kernel
def b_law_cell_at:EvS:=(i4 (sIf (tB (e2 dLt (b7 1) (eCl y6 (b8 (b7 0) g8)))) (n5 (e2 D5 (b7 0) (b7 1))) q8) (n5 (eC (.int 0))))
def m_law_cell_at:=fnD [.f,.i] 0 b_law_cell_at
abbrev X6(B:Bk P w K mg base)(k:Nat):=HB B "_law_cell_at" k ["_law_script","_law_k"] (spD K 2 m_law_cell_at .i)
def ok_law_cell_at(B:Bk P w K mg base):X6 B 1:=
 p5 B.d0 λ_ _ F=>fnF F ["_law_script","_law_k"] λ_ _ _ _ _ _ _ _=>by exact c7 (z9 (M':=[mdF,mdI]) (n4 a8e (c9 1) (E5 B.len_ (e7 0))) (g9 (l6 (b9 (D9 (e7 0) (c9 1))))) s9) (g9 (l6 (b9 e6)))
def b_law_cells:EvS:=(i4 (j8 2 (J1 g8)) (i4 (j8 3 (eC (.int 48271))) (i4 (E1 (iR (b7 1)) (x9 4) (i4 (j8 5 (e2 u9 (eCl m_law_cell_at (b8 (b7 0) (b8 (b7 4) g8))) (e2 a4z (eC (.int 10)) (eC (.int 64))))) (i4 (j8 3 (e2 u9 (e2 l9 (e2 l9 (e2 l9 (e2 A3 (b7 3) (eC (.int 69621))) (e2 A3 (b7 5) (eC (.int 40014)))) (e2 A3 (b7 4) (b7 4))) (eC (.int 1))) (eC (.int 2147483563)))) (sIf (tB (e2 dLt (b7 4) (eCl y6 (b8 (b7 0) g8)))) (D6 2 (.l .i) q9 (b7 5)) (D6 2 (.l .i) q9 (b7 3)))))) (n5 (b7 2)))))
def m_law_cells:=fnD [.f,.i] 4 b_law_cells
abbrev a1C(B:Bk P w K mg base)(k:Nat):=HB B "_law_cells" k ["_law_script","_law_many"] (spD K 2 m_law_cells (.l .i))
def ok_law_cells(B:Bk P w K mg base)(iF:X6 B 1):a1C B 2:=
 p5 B.d1 λ_ _ F=>fnF F ["_law_script","_law_many","_law_found","_law_number","_law_k","_law_cell"] λsc _ _ _ _ _ _ hr=>by exact c7 (j9 2 (t:=(.l .i)) sc.nd (b9 (K8 (n:=0) (u:=.i) p9))) (c7 (j9 3 (t:=.i) sc.nd (b9 e6)) (c7 (C4 (M:=[mdF,mdI,mdL,mdI,mdD,mdD]) (MB:=[mdF,mdI,mdL,mdI,mdI,mdD]) rfl cf (A7 B.range_ (c9 1)) (B4 4 sc.nd) E2 a6Y (PSsX.weak (M2:=[mdF,mdI,mdL,mdI,mdI,mdI]) (c7 (j9 5 (t:=.i) sc.nd (b9 (i9 u7 (D4 iF hr (i5 (e7 0) (i5 (c9 4) m6))) (i9 a2d e6 e6)))) (c7 (j9 3 (t:=.i) sc.nd (b9 (i9 u7 (i9 x8 (i9 x8 (i9 x8 (i9 K5 (c9 3) e6) (i9 K5 (c9 5) e6)) (i9 K5 (c9 4) (c9 4))) e6) e6))) (g9 (z9 (M':=[mdF,mdI,mdL,mdI,mdI,mdI]) (n4 a8e (c9 4) (E5 B.len_ (e7 0))) (g9 (T8 2 (u:=(.l .i)) (t:=.i) (M3 2 (u:=(.l .i))) (b9 (PX.newi (c9 5))) a1l)) (g9 (T8 2 (u:=(.l .i)) (t:=.i) (M3 2 (u:=(.l .i))) (b9 (PX.newi (c9 3))) a1l)))))) l8 ((k8 4).trans (k8 5)))) (g9 (l6 (V1 2 (u:=(.l .i)))))))
def b_law_copied:EvS:=(i4 (j8 3 (J1 g8)) (i4 (E1 (iR (b7 1)) (x9 4) (sIf (tB (e2 dLt (b7 4) (b7 2))) (D6 3 (.l .i) q9 (e2 u9 (e2 l9 (b7 4) (e2 N5 (e2 D5 (b7 0) (eC (.int 0))) (eC (.int 1000)))) (b7 2))) (D6 3 (.l .i) q9 (e2 u9 (e2 D5 (b7 0) (e2 l9 (eC (.int 3)) (b7 4))) (b7 2))))) (i4 (sIf (tB (e2 dEq (e2 u9 (e2 N5 (e2 D5 (b7 0) (eC (.int 1))) (eC (.int 20))) (eC (.int 2))) (eC (.int 1)))) (b7v 3) q8) (n5 (b7 3)))))
def m_law_copied:=fnD [.f,.i,.i] 2 b_law_copied
abbrev a0w(B:Bk P w K mg base)(k:Nat):=HB B "_law_copied" k ["_law_xs","_law_n","_law_many"] (spD K 3 m_law_copied (.l .i))
def ok_law_copied(B:Bk P w K mg base):a0w B 1:=
 p5 B.d2 λ_ _ F=>fnF F ["_law_xs","_law_n","_law_many","_law_rows","_law_s"] λsc _ _ _ _ _ _ hr=>by exact c7 (j9 3 (t:=(.l .i)) sc.nd (b9 (K8 (n:=0) (u:=.i) p9))) (c7 (C4 (M:=[mdF,mdI,mdI,mdL,mdD]) (MB:=[mdF,mdI,mdI,mdL,mdI]) rfl cf (A7 B.range_ (c9 1)) (B4 4 sc.nd) E2 a6Y (PSsX.weak (M2:=[mdF,mdI,mdI,mdL,mdI]) (g9 (z9 (M':=[mdF,mdI,mdI,mdL,mdI]) (n4 a8e (c9 4) (c9 2)) (g9 (T8 3 (u:=(.l .i)) (t:=.i) (M3 3 (u:=(.l .i))) (b9 (i9 u7 (i9 x8 (c9 4) (i9 N2 (D9 (e7 0) e6) e6)) (c9 2))) a1l)) (g9 (T8 3 (u:=(.l .i)) (t:=.i) (M3 3 (u:=(.l .i))) (b9 (i9 u7 (D9 (e7 0) (i9 x8 e6 (c9 4))) (c9 2))) a1l)))) l8 (k8 4))) (c7 (z9 (M':=[mdF,mdI,mdI,mdL,mdD]) (n4 I9 (i9 u7 (i9 N2 (D9 (e7 0) e6) e6) e6) e6) (g9 (b7x 3)) s9) (g9 (l6 (V1 3 (u:=(.l .i)))))))
def b_law_answer:EvS:=(i4 (j8 2 (e2 a4y (e2 u9 (e2 N5 (e2 D5 (b7 1) (eC (.int 2))) (eC (.int 1000))) (e2 a4y (e2 A3 (eC (.int 2)) (e2 a4z (eC (.int 10)) (eC (.int 60)))) (eC (.int 2)))) (e2 a4y (e2 a4z (eC (.int 10)) (eC (.int 60))) (eC (.int 1))))) (i4 (sIf (tB (e2 dEq (e2 u9 (e2 N5 (e2 D5 (b7 1) (eC (.int 1))) (eC (.int 5))) (eC (.int 4))) (eC (.int 1)))) (n5 (e2 l9 (b7 2) (e2 u9 (b7 0) (eC (.int 2))))) q8) (i4 (sIf (tB (e2 dEq (e2 u9 (e2 N5 (e2 D5 (b7 1) (eC (.int 1))) (eC (.int 5))) (eC (.int 4))) (eC (.int 2)))) (n5 (e2 a4y (e2 u9 (b7 0) (eC (.int 3))) (eC (.int 1)))) q8) (i4 (sIf (tB (e2 dEq (e2 u9 (e2 N5 (e2 D5 (b7 1) (eC (.int 1))) (eC (.int 5))) (eC (.int 4))) (eC (.int 3)))) (n5 (e2 a4y (e2 u9 (b7 0) (e2 a4y (e2 A3 (eC (.int 2)) (e2 a4z (eC (.int 10)) (eC (.int 60)))) (eC (.int 1)))) (e2 a4y (e2 a4z (eC (.int 10)) (eC (.int 60))) (eC (.int 1))))) q8) (n5 (e2 u9 (b7 0) (eC (.int 2))))))))
def m_law_answer:=fnD [.i,.f] 1 b_law_answer
abbrev a0x(B:Bk P w K mg base)(k:Nat):=HB B "_law_answer" k ["_law_number","_law_xs"] (spD K 2 m_law_answer .i)
def ok_law_answer(B:Bk P w K mg base):a0x B 1:=
 p5 B.d3 λ_ _ F=>fnF F ["_law_number","_law_xs","_law_low"] λsc _ _ _ _ _ _ hr=>by exact c7 (j9 2 (t:=.i) sc.nd (b9 (i9 Y6 (i9 u7 (i9 N2 (D9 (e7 1) e6) e6) (i9 Y6 (i9 K5 e6 (i9 a2d e6 e6)) e6)) (i9 Y6 (i9 a2d e6 e6) e6)))) (c7 (z9 (M':=[mdI,mdF,mdI]) (n4 I9 (i9 u7 (i9 N2 (D9 (e7 1) e6) e6) e6) e6) (g9 (l6 (b9 (i9 x8 (c9 2) (i9 u7 (c9 0) e6))))) s9) (c7 (z9 (M':=[mdI,mdF,mdI]) (n4 I9 (i9 u7 (i9 N2 (D9 (e7 1) e6) e6) e6) e6) (g9 (l6 (b9 (i9 Y6 (i9 u7 (c9 0) e6) e6)))) s9) (c7 (z9 (M':=[mdI,mdF,mdI]) (n4 I9 (i9 u7 (i9 N2 (D9 (e7 1) e6) e6) e6) e6) (g9 (l6 (b9 (i9 Y6 (i9 u7 (c9 0) (i9 Y6 (i9 K5 e6 (i9 a2d e6 e6)) e6)) (i9 Y6 (i9 a2d e6 e6) e6))))) s9) (g9 (l6 (b9 (i9 u7 (c9 0) e6)))))))
def b_law_machine:EvS:=(i4 (j8 3 (eCl m_law_cells (b8 (b7 0) (b8 (eC (.int 3)) g8)))) (i4 (j8 4 (e2 l9 (eC (.int 1)) (e2 u9 (e2 u8 (b7 3) (eC (.int 0))) (b7 1)))) (i4 (sIf (tB (e2 dEq (e2 u9 (e2 N5 (e2 u8 (b7 3) (eC (.int 0))) (b7 1)) (eC (.int 8))) (eC (.int 3)))) (j8 4 (e2 l9 (eC (.int 1)) (e2 u9 (e2 N5 (e2 u8 (b7 3) (eC (.int 0))) (e2 A3 (eC (.int 8)) (b7 1))) (b7 2)))) q8) (i4 (j8 5 (e2 l9 (eC (.int 1)) (e2 u9 (e2 u8 (b7 3) (eC (.int 1))) (eC (.int 5))))) (i4 (j8 6 (b7 4)) (i4 (sIf (tB (e2 dEq (e2 u9 (e2 u8 (b7 3) (eC (.int 2))) (eC (.int 4))) (eC (.int 3)))) (j8 6 (e2 l9 (eC (.int 1)) (e2 u9 (e2 N5 (e2 u8 (b7 3) (eC (.int 2))) (eC (.int 4))) (b7 4)))) q8) (i4 (j8 7 (eCl m_law_cells (b8 (b7 0) (b8 (e2 l9 (e2 l9 (eC (.int 3)) (b7 4)) (e2 A3 (e2 A3 (eC (.int 2)) (b7 4)) (b7 5))) g8)))) (i4 (j8 8 (eCl m_law_copied (b8 (b7 7) (b8 (b7 4) (b8 (b7 6) g8))))) (i4 (j8 9 (J1 g8)) (i4 (E1 (iR (b7 4)) (x9 10) (i4 (j8 11 (J1 g8)) (i4 (E1 (iR (b7 5)) (x9 12) (i4 (j8 13 (e2 u8 (b7 7) (e2 l9 (e2 l9 (e2 l9 (eC (.int 3)) (b7 4)) (e2 A3 (e2 u8 (b7 8) (b7 10)) (b7 5))) (b7 12)))) (i4 (j8 14 (l0 (iR (b7 4)) [6,8,13] pt1 (tB (e2 dEq (e2 u8 (b7 2) (b7 0)) (e2 u9 (b7 3) (b7 1)))) (b7 0))) (i4 (j8 15 (e2 u8 (b7 7) (e2 l9 (e2 l9 (e2 l9 (e2 l9 (eC (.int 3)) (b7 4)) (e2 A3 (b7 4) (b7 5))) (e2 A3 (b7 10) (b7 5))) (b7 12)))) (D6 11 (.l .i) q9 (N7 (b8 (eCl m_law_answer (b8 (e2 N5 (b7 13) (b7 6)) (b8 (b7 7) g8))) (b8 (e2 u8 (b7 14) (e2 u9 (b7 15) (eCl y6 (b8 (b7 14) g8)))) g8)))))))) (D6 9 (.l (.l .i)) q9 (b7 11))))) (n5 (b7 9))))))))))))
def m_law_machine:=fnD [.f,.i,.i] 13 b_law_machine
abbrev X7(B:Bk P w K mg base)(k:Nat):=HB B "_law_machine" k ["_law_script","_law_small","_law_large"] (spD K 3 m_law_machine (.l (.l .i)))
def ok_law_machine(B:Bk P w K mg base)(ix:a1C B 2)(iV:a0w B 2)(iW:a0x B 2):X7 B 3:=
 p5 B.d4 λ_ _ F=>fnF F ["_law_script","_law_small","_law_large","_law_first","_law_n","_law_asks","_law_many","_law_xs","_law_rows","_law_table","_law_s","_law_row","_law_a","_law_cell","_law_copies","_law_pick"] λsc _ _ _ _ _ _ hr=>by exact c7 (j9 3 (t:=(.l .i)) sc.nd (b9 (D4 ix hr (i5 (e7 0) (i5 e6 m6))))) (c7 (j9 4 (t:=.i) sc.nd (b9 (i9 x8 e6 (i9 u7 (K9 (E9 3) e6) (c9 1))))) (c7 (z9 (M':=[mdF,mdI,mdI,mdL,mdI,mdD,mdD,mdD,mdD,mdD,mdD,mdD,mdD,mdD,mdD,mdD]) (n4 I9 (i9 u7 (i9 N2 (K9 (E9 3) e6) (c9 1)) e6) e6) (g9 (j9 4 (t:=.i) sc.nd (b9 (i9 x8 e6 (i9 u7 (i9 N2 (K9 (E9 3) e6) (i9 K5 e6 (c9 1))) (c9 2)))))) s9) (c7 (j9 5 (t:=.i) sc.nd (b9 (i9 x8 e6 (i9 u7 (K9 (E9 3) e6) e6)))) (c7 (j9 6 (t:=.i) sc.nd (b9 (PX.newi (c9 4)))) (c7 (z9 (M':=[mdF,mdI,mdI,mdL,mdI,mdI,mdI,mdD,mdD,mdD,mdD,mdD,mdD,mdD,mdD,mdD]) (n4 I9 (i9 u7 (K9 (E9 3) e6) e6) e6) (g9 (j9 6 (t:=.i) sc.nd (b9 (i9 x8 e6 (i9 u7 (i9 N2 (K9 (E9 3) e6) e6) (c9 4)))))) s9) (c7 (j9 7 (t:=(.l .i)) sc.nd (b9 (D4 ix hr (i5 (e7 0) (i5 (i9 x8 (i9 x8 e6 (c9 4)) (i9 K5 (i9 K5 e6 (c9 4)) (c9 5))) m6))))) (c7 (j9 8 (t:=(.l .i)) sc.nd (b9 (D4 iV hr (i5 (E9 7) (i5 (c9 4) (i5 (c9 6) m6)))))) (c7 (j9 9 (t:=(.l (.l .i))) sc.nd (b9 (K8 (n:=0) (u:=(.l .i)) p9))) (c7 (C4 (M:=[mdF,mdI,mdI,mdL,mdI,mdI,mdI,mdL,mdL,L3,mdD,mdD,mdD,mdD,mdD,mdD]) (MB:=[mdF,mdI,mdI,mdL,mdI,mdI,mdI,mdL,mdL,L3,mdI,mdD,mdD,mdD,mdD,mdD]) rfl cf (A7 B.range_ (c9 4)) (B4 10 sc.nd) E2 a6Y (PSsX.weak (M2:=[mdF,mdI,mdI,mdL,mdI,mdI,mdI,mdL,mdL,L3,mdI,mdD,mdD,mdD,mdD,mdD]) (c7 (j9 11 (t:=(.l .i)) sc.nd (b9 (K8 (n:=0) (u:=.i) p9))) (c7 (C4 (M:=[mdF,mdI,mdI,mdL,mdI,mdI,mdI,mdL,mdL,L3,mdI,mdL,mdD,mdD,mdD,mdD]) (MB:=[mdF,mdI,mdI,mdL,mdI,mdI,mdI,mdL,mdL,L3,mdI,mdL,mdI,mdD,mdD,mdD]) rfl cf (A7 B.range_ (c9 5)) (B4 12 sc.nd) E2 a6Y (PSsX.weak (M2:=[mdF,mdI,mdI,mdL,mdI,mdI,mdI,mdL,mdL,L3,mdI,mdL,mdI,mdI,mdL,mdI]) (c7 (j9 13 (t:=.i) sc.nd (b9 (PX.newi (K9 (E9 7) (i9 x8 (i9 x8 (i9 x8 e6 (c9 4)) (i9 K5 (K9 (E9 8) (c9 10)) (c9 5))) (c9 12)))))) (c7 (Q2 14 (t:=.i) sc.nd rfl (tn:=["_law_t"]) (ys:=["_law_many","_law_rows","_law_cell"]) (js:=[6,8,13]) (mm:=.i) (A7 B.range_ (c9 4)) rfl (λ_ _ _ _ _=>x0 (i:=0) c0S rfl (cn rfl) (.inr rfl)) B6 (.inl rfl) b1t rfl (λ_ _ _ _ _=>a0N (n4 I9 (K9 (E9 2) (c9 0)) (i9 u7 (c9 3) (c9 1)))) (λ_ _ _ _ _=>(PX.newi (c9 0)))) (c7 (j9 15 (t:=.i) sc.nd (b9 (PX.newi (K9 (E9 7) (i9 x8 (i9 x8 (i9 x8 (i9 x8 e6 (c9 4)) (i9 K5 (c9 4) (c9 5))) (i9 K5 (c9 10) (c9 5))) (c9 12)))))) (g9 (T8 11 (u:=(.l .i)) (t:=.i) (M3 11 (u:=(.l .i))) (b9 (U9 (n:=2) (B2 (u:=.i) (D4 iW hr (i5 (i9 N2 (c9 13) (c9 6)) (i5 (E9 7) m6))) (B2 (u:=.i) (PX.newi (K9 (E9 14) (i9 u7 (c9 15) (E5 B.len_ (E9 14))))) p9)))) a1l))))) l8 ((((k8 12).trans (k8 13)).trans (k8 14)).trans (k8 15)))) (g9 (T8 9 (u:=(.l (.l .i))) (t:=(.l .i)) (M3 9 (u:=(.l (.l .i)))) (V1 11 (u:=(.l .i))) a1l)))) l8 (k8 10))) (g9 (l6 (V1 9 (u:=(.l (.l .i)))))))))))))))
def M8:EvS:=(sIf (tB (e2 dGt (eCl y6 (b8 (b7 0) g8)) (eC (.int 7)))) sNo q8)
def u5:=fnN [.f] 0 M8
abbrev E6(B:Bk P w K mg base)(k:Nat):=HB B "need_few_states" k ["machine"] (spD K 1 u5 .i)
def Z2(B:Bk P w K mg base):E6 B 1:=
 p5 B.d5 λ_ _ F=>b9m F ["machine"] [.own .f] λ_ _ _ _ _ _ _ _=>by exact g9 (z9 (M':=[mdF]) (n4 b8x (E5 B.len_ (e7 0)) (b3U B.MOST_FOR_SETS_)) (g9 (b5y)) s9)
def b0w:EvS:=(i4 (j8 1 (J1 (b8 (N7 g8) g8))) (i4 (E1 (iR (b7 0)) (x9 2) (j8 1 (eI (b6F (b7 1) (l0 (iI (iL (b7 1))) [2] pt1 tT (e2 a8B (b7 0) (N7 (b8 (b7 1) g8)))))))) (n5 (eI (eSl (b7 1) (oSo (eC (.int 1))) oNo)))))
def W3:=fnD [.i] 2 b0w
abbrev a0Z(B:Bk P w K mg base)(k:Nat):=HB B "sets_of" k ["states"] (spD K 1 W3 (.l .i))
def a7S(B:Bk P w K mg base):a0Z B 1:=
 p5 B.d6 λ_ _ F=>fnF F ["states","found","state"] λsc _ _ _ _ _ _ _=>by exact c7 (j9 1 (t:=(.l .i)) sc.nd (b9 (K8 (n:=1) (u:=.i) (B2 (u:=.i) (U9 (n:=0) p9) p9)))) (c7 (C4 (M:=[mdI,mdL,mdD]) (MB:=[mdI,mdL,mdI]) rfl cf (A7 B.range_ (c9 0)) (B4 2 sc.nd) E2 a6Y (PSsX.weak (M2:=[mdI,mdL,mdI]) (g9 (PSX.weak (M1:=[mdI,mdF,mdI]) (j9 1 (t:=(.l .i)) sc.nd (b9 (MkL.i (b1r (PX.newf (e7 1)) (L9 rfl (tn:=["held"]) (ys:=["state"]) (js:=[2]) (m:=.i) (PIX.i (v6 (PX.newf (e7 1)))) rfl (λ_ _ _ _ _=>x0 (i:=0) c0T rfl (cn rfl) (.inr rfl)) B6 (.inl rfl) a2j rfl (λ_ _ _ _ _=>V0) (λ_ _ _ _ _=>(a8C (c9 0) (U9 (n:=1) (B2 (u:=.i) (PX.newi (c9 1)) p9))))))))) (G9 1) l8)) l8 (k8 2))) (g9 (l6 (b9 (MkL.i (a5C (E9 1) (a5B e6) a5A))))))
def R7:EvS:=(i4 (E1 (iEn (b7 0)) (a9r 2 3) (sIf (tAn (tB (e2 (N1 true) (b7 3) (eC .none))) (tV (eCl a9l (b8 (l0 (iL (b7 3)) [1] pt1 tT (e2 (v9 false true) (b7 0) (b7 1))) g8)))) (n5 (eIm (b7 2))) q8)) (n5 (eC .none)))
def p6:=fnD [.f,.f] 2 R7
abbrev R8(B:Bk P w K mg base)(k:Nat):=HB B "least_telling" k ["behind","found"] (spD K 2 p6 .i)
def a1a(B:Bk P w K mg base):R8 B 1:=
 p5 B.d7 λ_ _ F=>fnF F ["behind","found","ask","parts"] λsc _ _ _ _ _ _ hr=>by exact c7 (b4m (fi:=(iEn (b7 0))) (M:=[mdF,mdF,mdD,mdD]) (MB:=[mdF,mdF,mdF,mdF]) rfl cf (c0w B.enumerate_ (PX.newf (e7 0))) (a6F rfl (F9 (B4 2 sc.nd) (F9 (B4 3 sc.nd) a1K))) (b1v (w:=.f) (.inl rfl)) (λ_ _ _ _ _ e=>nomatch e) (λh=>h) (PSsX.weak (M2:=[mdF,mdF,mdF,mdF]) (g9 (z9 (M':=[mdF,mdF,mdF,mdF]) (PWX.pt (a8h (n4 a8f (e7 3) Q1) (a5w (a0f (a6R (b1o rfl) B.all_ PyProof.Rows.Boot.«all» (i5 (L9 rfl (tn:=["part"]) (ys:=["found"]) (js:=[1]) (m:=.f) (v6 (PX.newf (e7 3))) rfl (λ_ _ _ _ _=>x0 (i:=0) c0U rfl (cn rfl) (.inr rfl)) B6 (.inr rfl) a8k rfl (λ_ _ _ _ _=>V0) (λ_ _ _ _ _=>(b1L (kt:=true) (Y7 (by exact hr.units)) (e7 0) (e7 1)))) m6)))))) (g9 (l6 (b9 (b7G (PX.newf (e7 2)))))) s9)) l8 ((k8 2).trans (k8 3)))) (g9 (l6 (b9 Q1)))
def F7:(List D→Option D)→EvS:=λgm=>(i4 (j8 3 (eC (.dict []))) (i4 (E1 (iI (iL (b7 1))) (x9 4) (i4 (j8 5 (eCl gm (b8 (b7 4) (b8 (b7 0) g8)))) (sIf (tB (e2 (N1 true) (b7 5) (eC .none))) (B3 3 true (b7 4) (b7 5)) q8))) (n5 (b7 3))))
def o5:=fnL [.f,.f] 3 F7
abbrev P3(B:Bk P w K mg base)(k:Nat):=HB B "found_in_round" k ["found","left","tell"] (spL K 2 (λgm=>FnV P w K mg base 2 2 .i gm) o5 (.d true .i))
def a0y(B:Bk P w K mg base):P3 B 3:=
 p5 B.d8 λ_ _ F=>b9n F ["found","left","tell","newer","thing","told"] λsc gm _ _ _ _ _ _ hr=>by exact c7 (j9 3 (t:=(.d true .i)) sc.nd (b9 (O4 true .i))) (c7 (C4 (M:=[mdF,mdF,.fn (FnV P w K mg base 2 2 .i gm),.own (.d true .i),mdD,mdD]) (MB:=[mdF,mdF,.fn (FnV P w K mg base 2 2 .i gm),.own (.d true .i),mdI,mdD]) rfl cf (PIX.i (v6 (PX.newf (e7 1)))) (B4 4 sc.nd) E2 a5F (PSsX.weak (M2:=[mdF,mdF,.fn (FnV P w K mg base 2 2 .i gm),.own (.d true .i),mdI,mdI]) (c7 (j9 5 (t:=.i) sc.nd (b9 (b2f 2 (k:=2) (n:=2) (u:=.i) (m:=gm) (hr.mono (by decide)) (i5 (c9 4) (i5 (e7 0) m6)) (hfl:=(j7 (j7 C6)))))) (g9 (z9 (M':=[mdF,mdF,.fn (FnV P w K mg base 2 2 .i gm),.own (.d true .i),mdI,mdI]) (n4 a8f (c9 5) Q1) (g9 (a0n 3 (kt:=true) (u:=.i) (by exact hr.units) (c9 4) (b9 (PX.newi (c9 5))))) s9))) l8 ((k8 4).trans (k8 5)))) (g9 (l6 (V1 3 (u:=(.d true .i))))))
def E7:(List D→Option D)→EvS:=λgm=>(i4 (j8 3 (a4Y (b7 0))) (i4 (j8 4 (b0a o5 gm (b8 (b7 3) (b8 (b7 1) g8)))) (i4 (sWh (λ_=>1000000) (tVD (b7 4)) (i4 (a9L 3 4) (i4 (j8 1 (l0 (iI (iL (b7 1))) [4] pt1 (tB (e2 (dIn true true) (b7 0) (b7 1))) (b7 0))) (j8 4 (b0a o5 gm (b8 (b7 3) (b8 (b7 1) g8))))))) (n5 (b7 3)))))
def o9:=fnL [.f,.f] 2 E7
abbrev M9(B:Bk P w K mg base)(k:Nat):=HB B "found_in_rounds" k ["outset","left","tell"] (spL K 2 (λgm=>FnV P w K mg base 2 2 .i gm) o9 .f)
def Z3(B:Bk P w K mg base)(fR:P3 B 3):M9 B 4:=
 p5 B.d9 λ_ _ F=>b9n F ["outset","left","tell","found","newer"] λsc gm _ _ _ _ _ _ hr=>by exact c7 (j9 3 (t:=(.d true .f)) sc.nd (b9 (b0k B.dict_ (PX.newf (e7 0))))) (c7 (j9 4 (t:=(.d true .f)) sc.nd (b9 (a8D (u:=.i) (a3Q (u:=(.d true .i)) (gm:=gm) fR hr (O7 (K7 3 (u:=(.d true .f))) (O7 (e7 1) (a8u 2))) (hfl:=(O6 (O6 a4V))))))) (c7 (b1w (M:=[mdF,mdF,.fn (FnV P w K mg base 2 2 .i gm),.own (.d true .f),.own (.d true .f)]) (λ_=>1000000) cf (b1N (K7 4 (u:=(.d true .f)))) (PSsX.weak (M2:=[mdF,mdL,.fn (FnV P w K mg base 2 2 .i gm),.own (.d true .f),.own (.d true .f)]) (c7 (a9M 3 4 (kt:=true) (u:=.f) (by decide) (by exact hr.units)) (c7 (Q2 1 (t:=.i) sc.nd rfl (tn:=["thing"]) (ys:=["newer"]) (js:=[4]) (mm:=.i) (PIX.i (v6 (PX.newf (e7 1)))) rfl (λ_ _ _ _ _=>x0 (i:=0) c0V rfl (cn rfl) (.inr rfl)) B6 (.inl rfl) a2j rfl (λ_ _ _ _ _=>a0N (b4q 1 (kt:=true) (V6 (by exact hr.units)) (c9 0))) (λ_ _ _ _ _=>(PX.newi (c9 0)))) (g9 (j9 4 (t:=(.d true .f)) sc.nd (b9 (a8D (u:=.i) (a3Q (u:=(.d true .i)) (gm:=gm) fR hr (O7 (K7 3 (u:=(.d true .f))) (O7 (E9 1) (a8u 2))) (hfl:=(O6 (O6 a4V)))))))))) l8 (G9 1))) (g9 (PSX.weak (M1:=[mdF,mdF,.fn (FnV P w K mg base 2 2 .i gm),mdF,.own (.d true .f)]) (l6 (b9 (PX.newf (e7 3)))) (G9 3) l8))))
def a4a:EvS:=(n5 (eCl y6 (b8 (e2 dIx (b7 0) (eC (.int 0))) g8)))
def P4:=fnD [.f] 0 a4a
abbrev a4b(B:Bk P w K mg base)(k:Nat):=HB B "asks_of" k ["machine"] (spD K 1 P4 .i)
def a7T(B:Bk P w K mg base):a4b B 1:=
 p5 B.d10 λ_ _ F=>fnF F ["machine"] λ_ _ _ _ _ _ _ _=>by exact g9 (l6 (b9 (E5 B.len_ (a4G (PX.newf (e7 0)) e6))))
def a1D:EvS:=(i4 (j8 3 (eC (.dict []))) (i4 (E1 (iI (iIt (b7 1))) (a9r 4 5) (i4 (j8 6 (e2 D5 (e2 dIx (b7 0) (b7 4)) (b7 2))) (i4 (a2K 3 false false (e2 D5 (b7 6) (eC (.int 0))) (e2 D5 (b7 6) (eC (.int 1))) (eC .none) (b7 5)) q8))) (n5 (b7 3))))
def w9:=fnD [.f,.f,.i] 5 a1D
abbrev U2(B:Bk P w K mg base)(k:Nat):=HB B "parted_by" k ["machine","begun","ask"] (spD K 3 w9 .f)
def a5d(B:Bk P w K mg base):U2 B 1:=
 p5 B.d11 λ_ _ F=>fnF F ["machine","begun","ask","found","state","start","step","part"] λsc _ _ _ _ _ _ hr=>by exact c7 (j9 3 (t:=(.d false (.d false .i))) sc.nd (b9 (O4 false (.d false .i)))) (c7 (b2y (fi:=(iI (iIt (b7 1)))) (M:=[mdF,mdF,mdI,.own (.d false (.d false .i)),mdD,mdD,mdD,mdD]) (MB:=[mdF,mdF,mdI,.own (.d false (.d false .i)),mdI,mdI,mdD,mdD]) rfl cf (c0D (PX.newf (e7 1))) (a6F rfl (F9 (B4 4 sc.nd) (F9 (B4 5 sc.nd) a1K))) (b1v (w:=.i) (.inr rfl)) (λρ ds h d hd _=>a5F ρ ds h d hd) b7n (PSsX.weak (M2:=[mdF,mdF,mdI,.own (.d false (.d false .i)),mdI,mdI,mdI,mdD]) (c7 (j9 6 (t:=.i) sc.nd (b9 (D9 (a4G (PX.newf (e7 0)) (c9 4)) (c9 2)))) (b2F 3 7 (kt:=false) (kt2:=false) (fr:=(eC .none)) (by exact hr.units) sc.nd (D9 (c9 6) e6) (D9 (c9 6) e6) (D9 (c9 6) e6) (M2:=[mdF,mdF,mdI,.own (.d false (.d false .i)),mdI,mdI,mdI,mdD]) (l6 (b9 (PX.itof Q1))) (PX.newi (c9 5)) s9)) l8 (((k8 4).trans (k8 5)).trans (k8 6)))) (g9 (PSX.weak (M1:=[mdF,mdF,mdI,mdF,mdD,mdD,mdD,mdD]) (l6 (b9 (PX.newf (e7 3)))) (G9 3) l8)))
def X8:EvS:=(i4 (j8 2 (J1 g8)) (i4 (E1 (iR (eCl P4 (b8 (b7 0) g8))) (x9 3) (i4 (j8 4 (eCl w9 (b8 (b7 0) (b8 (G8 false (b7 1) (b7 1)) (b8 (b7 3) g8))))) (D6 2 (.l .f) q9 (eIf (tB (e2 (N1 false) (b7 4) (eC .none))) (eC .none) (l0 (iVa (b7 4)) [] pt1 tT (w6 (H9 false (b7 0)))))))) (n5 (b7 2))))
def z0:=fnD [.f,.i] 3 X8
abbrev X9(B:Bk P w K mg base)(k:Nat):=HB B "sets_behind" k ["machine","states"] (spD K 2 z0 (.l .f))
def a2N(B:Bk P w K mg base)(kA:a4b B 1)(fY:U2 B 1):X9 B 2:=
 p5 B.d12 λ_ _ F=>fnF F ["machine","states","found","ask","parts"] λsc _ _ _ _ _ _ hr=>by exact c7 (j9 2 (t:=(.l .f)) sc.nd (b9 (K8 (n:=0) (u:=.f) p9))) (c7 (C4 (M:=[mdF,mdI,.own (.l .f),mdD,mdD]) (MB:=[mdF,mdI,.own (.l .f),mdI,mdD]) rfl cf (A7 B.range_ (D4 kA hr (i5 (e7 0) m6))) (B4 3 sc.nd) E2 a6Y (PSsX.weak (M2:=[mdF,mdI,.own (.l .f),mdI,mdF]) (c7 (j9 4 (t:=.f) sc.nd (b9 (by exact G7 (u:=.f) fY hr (n9 (PX.newf (e7 0)) (n9 (PX.frz (a2J false rfl (by exact hr.units) B.dict_ B.zip_ (PX.newi (c9 1)) (PX.newi (c9 1)))) (n9 (PX.newi (c9 3)) (M7)))) (hfl:=(j7 (j7 (j7 C6))))))) (g9 (T8 2 (u:=(.l .f)) (t:=.f) (M3 2 (u:=(.l .f))) (b9 (PX.frz (u:=(.l .i)) (b1l (n4 b1k (e7 4) Q1) (PX.itol (u:=.i) Q1) (by exact L9 rfl (tn:=["part"]) (ys:=[]) (js:=[]) (m:=.f) (b2G (PX.newf (e7 4))) rfl (λ_ _ _ _ _=>x0 (i:=0) c0W rfl (cn rfl) (.inr rfl)) B6 (.inr rfl) a8k rfl (λ_ _ _ _ _=>V0) (λ_ _ _ _ _=>(N9 B.tuple_ (a2z false rfl B.sorted_ (e7 0)))))))) a1l))) l8 ((k8 3).trans (k8 4)))) (g9 (l6 (V1 2 (u:=(.l .f))))))
def a0z:EvS:=(i4 (j8 1 (eC (.dict []))) (i4 (j8 2 (eC (.dict []))) (i4 (E1 (iI (iL (eCl W3 (b8 (eCl y6 (b8 (b7 0) g8)) g8)))) (x9 3) (sIf (tB (e2 dEq (eCl y6 (b8 (b7 3) g8)) (eC (.int 1)))) (B3 1 true (b7 3) (eC .none)) (B3 2 true (b7 3) (eCl z0 (b8 (b7 0) (b8 (b7 3) g8)))))) (n5 (b4F o9 [.i,.f] [2] (eCl p6 (b8 (e2 (X0 true) (b7 2) (b7 0)) (b8 (b7 1) g8))) (b8 (b7 1) (b8 (a7H (b7 2)) g8)))))))
def u6:=fnD [.f] 3 a0z
abbrev R0(B:Bk P w K mg base)(k:Nat):=HB B "least_asks" k ["machine"] (spD K 1 u6 .f)
def a3q(B:Bk P w K mg base)(ic:a0Z B 4)(gk:M9 B 4)(iC:X9 B 4)(kP:R8 B 1)(LT:(B0 K "least_asks").isSome=true)(KB:K.In base)(GB:base.Ns bP mg):R0 B 5:=
 b4P B.d13 λ_ _ F a=>c0G F ["machine","outset","behind","states"] LT KB GB a λsc _ _ vA vJ vz A outer s H _ hr=>by exact c7 (j9 1 (t:=(.d true .i)) sc.nd (b9 (O4 true .i))) (c7 (j9 2 (t:=(.d true (.l .f))) sc.nd (b9 (O4 true (.l .f)))) (c7 (C4 (M:=[mdF,.own (.d true .i),.own (.d true (.l .f)),mdD]) (MB:=[mdF,.own (.d true .i),.own (.d true (.l .f)),mdI]) rfl cf (PIX.i (v6 (PX.frz (D4 ic hr (i5 (E5 B.len_ (e7 0)) m6))))) (B4 3 sc.nd) E2 a5F (PSsX.weak (M2:=[mdF,.own (.d true .i),.own (.d true (.l .f)),mdI]) (g9 (z9 (M':=[mdF,.own (.d true .i),.own (.d true (.l .f)),mdI]) (n4 I9 (E5 B.len_ (c9 3)) e6) (g9 (a0n 1 (kt:=true) (u:=.i) (by exact hr.units) (c9 3) (b9 Q1))) (g9 (a0n 2 (kt:=true) (u:=(.l .f)) (by exact hr.units) (c9 3) (b9 (by exact G7 (u:=(.l .f)) iC hr (n9 (PX.newf (e7 0)) (n9 (PX.newi (c9 3)) (M7))) (hfl:=(j7 (j7 C6))))))))) l8 (k8 3))) (g9 (PSX.weak (M1:=[mdF,mdF,mdF,mdD]) (b4M (M:=[mdF,mdF,mdF,mdD]) rfl (by exact a6d (kf:=1) (uf:=.i) (N:=["states","found","behind"]) (pl:=["states","found"]) (ys:=["behind"]) (js:=[2]) (us:=[.i,.f]) gk hr (O7 (e7 1) (O7 (b2H rfl B.list_ (e7 2)) (b4E (by decide) vJ vA vz rfl))) ⟨_,_,_,rfl,rfl,rfl,rfl,rfl,rfl⟩ ⟨⟨_,rfl⟩,trivial⟩ (by exact⟨rfl,rfl,rfl,by decide +kernel,rfl,by decide +kernel,by decide +kernel,by decide +kernel,rfl⟩) rfl (λ_ _ _ us hl=>by obtain⟨_,_,rfl⟩:=VS.b4u hl;rfl) (λfa c A outer s H hr=>D4 kP hr (i5 (a1N (kt:=true) (by exact hr.units) (PX.newf (e7 2)) (c9 0)) (i5 (e7 1) m6))) (hfl:=(O6 (O6 a4V))))) ((G9 1).trans (G9 2)) l8))))
def a8L:EvS:=(i4 (sEx (eCl u5 (b8 (b7 0) g8))) (i4 (j8 1 (eCl u6 (b8 (b7 0) g8))) (n5 (l0 (iI (iL (a4U true (eCl W3 (b8 (eCl y6 (b8 (b7 0) g8)) g8))))) [1] pt1 (tB (e2 (v9 true true) (b7 0) (b7 1))) (eI (L7 (b7 0)))))))
def a0A:=fnD [.f] 1 a8L
abbrev a8M(B:Bk P w K mg base)(k:Nat):=HB B "stuck" k ["machine"] (spD K 1 a0A (.l (.l .i)))
def b2R(B:Bk P w K mg base)(dR:E6 B 5)(ic:a0Z B 5)(fQ:R0 B 5):a8M B 6:=
 p5 B.d14 λ_ _ F=>fnF F ["machine","told"] λsc _ _ _ _ _ _ hr=>by exact c7 (a4M (D4 dR hr (i5 (e7 0) m6))) (c7 (j9 1 (t:=.f) sc.nd (b9 (by exact G7 (u:=.f) fQ hr (n9 (PX.newf (e7 0)) (M7)) (hfl:=(j7 C6))))) (g9 (l6 (b9 (L9 rfl (tn:=["states"]) (ys:=["told"]) (js:=[1]) (m:=.i) (PIX.i (v6 (PX.frz (b1W true B.sorted_ (D4 ic hr (i5 (E5 B.len_ (e7 0)) m6)))))) rfl (λ_ _ _ _ _=>x0 (i:=0) c0X rfl (cn rfl) (.inr rfl)) B6 (.inl rfl) a2j rfl (λ_ _ _ _ _=>a0N (V9 (kt:=true) (V6 (by exact hr.units)) (c9 0) (e7 1))) (λ_ _ _ _ _=>(MkL.i (a4J B.list_ (PX.newi (c9 0))))))))))
def b_law_sets:EvS:=(i4 (j8 1 (J1 (b8 (N7 g8) g8))) (i4 (E1 (iR (b7 0)) (x9 2) (j8 1 (eI (b6F (b7 1) (l0 (iI (iL (b7 1))) [2] pt1 tT (e2 a8B (b7 0) (N7 (b8 (b7 1) g8)))))))) (n5 (eI (eSl (b7 1) (oSo (eC (.int 1))) oNo)))))
def m_law_sets:=fnD [.i] 2 b_law_sets
abbrev a2O(B:Bk P w K mg base)(k:Nat):=HB B "_law_sets" k ["_law_n"] (spD K 1 m_law_sets (.l .i))
def ok_law_sets(B:Bk P w K mg base):a2O B 1:=
 p5 B.d15 λ_ _ F=>fnF F ["_law_n","_law_some","_law_s"] λsc _ _ _ _ _ _ _=>by exact c7 (j9 1 (t:=(.l .i)) sc.nd (b9 (K8 (n:=1) (u:=.i) (B2 (u:=.i) (U9 (n:=0) p9) p9)))) (c7 (C4 (M:=[mdI,mdL,mdD]) (MB:=[mdI,mdL,mdI]) rfl cf (A7 B.range_ (c9 0)) (B4 2 sc.nd) E2 a6Y (PSsX.weak (M2:=[mdI,mdL,mdI]) (g9 (PSX.weak (M1:=[mdI,mdF,mdI]) (j9 1 (t:=(.l .i)) sc.nd (b9 (MkL.i (b1r (PX.newf (e7 1)) (L9 rfl (tn:=["_law_one"]) (ys:=["_law_s"]) (js:=[2]) (m:=.i) (PIX.i (v6 (PX.newf (e7 1)))) rfl (λ_ _ _ _ _=>x0 (i:=0) c0Y rfl (cn rfl) (.inr rfl)) B6 (.inl rfl) a2j rfl (λ_ _ _ _ _=>V0) (λ_ _ _ _ _=>(a8C (c9 0) (U9 (n:=1) (B2 (u:=.i) (PX.newi (c9 1)) p9))))))))) (G9 1) l8)) l8 (k8 2))) (g9 (l6 (b9 (MkL.i (a5C (E9 1) (a5B e6) a5A))))))
def b_law_free:EvS:=(i4 (j8 4 (eC (.dict []))) (i4 (E1 (iI (iT (b7 2))) (x9 5) (i4 (a3F 6 7 (e2 D5 (e2 dIx (b7 0) (b7 5)) (b7 3))) (i4 (sIf (tB (e2 (dIn true false) (b7 6) (b7 4))) (B3 4 false (b7 6) (J1 g8)) q8) (i4 (sIf (tB (e2 (a9N false) (b7 7) (e2 (a9y false) (b7 4) (b7 6)))) (n5 (eC (.bool false))) q8) (a3P 4 false (b7 6) (b7 7)))))) (i4 (E1 (iI (iDk (b7 4))) (x9 6) (sIf (tB (e2 (v9 false true) (w6 (a3K (e2 (X0 false) (b7 4) (b7 6)))) (b7 1))) (n5 (eC (.bool false))) q8)) (n5 (eC (.bool true))))))
def m_law_free:=fnD [.f,.f,.i,.i] 4 b_law_free
abbrev a2P(B:Bk P w K mg base)(k:Nat):=HB B "_law_free" k ["_law_table","_law_known","_law_one","_law_ask"] (spD K 4 m_law_free .i)
def ok_law_free(B:Bk P w K mg base):a2P B 1:=
 p5 B.d16 λ_ _ F=>fnF F ["_law_table","_law_known","_law_one","_law_ask","_law_came","_law_s","_law_answer_here","_law_to"] λsc _ _ _ _ _ _ hr=>by exact c7 (j9 4 (t:=(.d false (.l .i))) sc.nd (b9 (O4 false (.l .i)))) (c7 (C4 (M:=[mdF,mdF,mdI,mdI,.own (.d false (.l .i)),mdD,mdD,mdD]) (MB:=[mdF,mdF,mdI,mdI,.own (.d false (.l .i)),mdI,mdD,mdD]) rfl cf (PIX.i (a4K (PX.newi (c9 2)))) (B4 5 sc.nd) E2 a5F (PSsX.weak (M2:=[mdF,mdF,mdI,mdI,.own (.d false (.l .i)),mdI,mdI,mdI]) (c7 (b4a 6 7 (t:=.i) (u1:=.i) (u2:=.i) sc.nd rfl (b9 (D9 (a4G (PX.newf (e7 0)) (c9 5)) (c9 3))) (.inr (.inl ⟨rfl,rfl,rfl⟩)) (hg1:=F9 (B4 6 sc.nd) (F9 (B4 7 sc.nd) a1K))) (c7 (z9 (M':=[mdF,mdF,mdI,mdI,.own (.d false (.l .i)),mdI,mdI,mdI]) (b7j (kt:=false) (u:=(.l .i)) (V6 (by exact hr.units)) (c9 6) (K7 4 (u:=(.d false (.l .i))))) (g9 (a0n 4 (kt:=false) (u:=(.l .i)) (by exact hr.units) (c9 6) (b9 (K8 (n:=0) (u:=.i) p9)))) s9) (c7 (z9 (M':=[mdF,mdF,mdI,mdI,.own (.d false (.l .i)),mdI,mdI,mdI]) (n4 (b7s (by exact hr.units)) (c9 7) (b7l (kt:=false) (u:=(.l .i)) (by exact hr.units) (K7 4 (u:=(.d false (.l .i)))) (c9 6))) (g9 (l6 (b9 X4))) s9) (g9 (b4v 4 (kt:=false) (by exact hr.units) (c9 6) (PX.newi (c9 7))))))) l8 (((k8 5).trans (k8 6)).trans (k8 7)))) (c7 (PSX.weak (M1:=[mdF,mdF,mdI,mdI,mdF,mdD,mdD,mdD]) (C4 (M:=[mdF,mdF,mdI,mdI,mdF,mdD,mdD,mdD]) (MB:=[mdF,mdF,mdI,mdI,mdF,mdD,mdI,mdD]) rfl cf (PIX.i (b2a (PX.newf (e7 4)))) (B4 6 sc.nd) E2 a5F (PSsX.weak (M2:=[mdF,mdF,mdI,mdI,mdF,mdD,mdI,mdD]) (g9 (z9 (M':=[mdF,mdF,mdI,mdI,mdF,mdD,mdI,mdD]) (V9 (kt:=true) (Y7 (by exact hr.units)) (N9 B.tuple_ (a9C B.sorted_ (a1N (kt:=false) (by exact hr.units) (PX.newf (e7 4)) (c9 6)))) (e7 1)) (g9 (l6 (b9 X4))) s9)) l8 (k8 6))) (G9 4) l8) (g9 (l6 (b9 X4)))))
def R9:EvS:=(n5 (a4C (e1 (λd=>el (.bool (isList d))) (b7 0)) (eCh dLe dLe (eC (.int 1)) (eCl y6 (b8 (b7 0) g8)) (b7 1))))
def B8:=fnD [.f,.i] 0 R9
abbrev S6(B:Bk P w K mg base)(k:Nat):=HB B "is_list_up_to" k ["thing","most"] (spD K 2 B8 .i)
def a1b(B:Bk P w K mg base):S6 B 1:=
 p5 B.d17 λ_ _ F=>fnF F ["thing","most"] λ_ _ _ _ _ _ _ _=>by exact g9 (l6 (b9 (a0M (a2h a2i B.isinstance_ B.list_ PyProof.Rows.Boot.«list» (e7 0)) (a2e (a5v b1g b1g e6 (E5 B.len_ (e7 0)) (c9 1))))))
def a2Q:EvS:=(n5 (a4C (e1 (λd=>el (.bool (isInt d))) (b7 0)) (b3T (e1 (λd=>el (.bool (isBool d))) (b7 0)))))
def R1:=fnD [.f] 0 a2Q
abbrev a2R(B:Bk P w K mg base)(k:Nat):=HB B "is_whole" k ["thing"] (spD K 1 R1 .i)
def a6n(B:Bk P w K mg base):a2R B 1:=
 p5 B.d18 λ_ _ F=>fnF F ["thing"] λ_ _ _ _ _ _ _ _=>by exact g9 (l6 (b9 (a0M (a2h b3X B.isinstance_ B.int_ PyProof.Rows.Boot.«int» (e7 0)) (a2e (b6C (a2h b1p B.isinstance_ B.bool_ PyProof.Rows.Boot.«bool» (e7 0)))))))
def a2S:EvS:=(n5 (a4C (eCl R1 (b8 (b7 0) g8)) (eCh dLe dLt (eC (.int 0)) (b7 0) (b7 1))))
def R4:=fnD [.f,.i] 0 a2S
abbrev a2T(B:Bk P w K mg base)(k:Nat):=HB B "is_below" k ["thing","bound"] (spD K 2 R4 .i)
def a6o(B:Bk P w K mg base)(jO:a2R B 1):a2T B 2:=
 p5 B.d19 λ_ _ F=>fnF F ["thing","bound"] λ_ _ _ _ _ _ _ hr=>by exact g9 (l6 (b9 (a0M (D4 jO hr (i5 (e7 0) m6)) (a2e (a5v b1g a8e e6 (e7 0) (c9 1))))))
def a6p:EvS:=(n5 (a4C (eCl B8 (b8 (b7 0) (b8 (b7 1) g8))) (a4C (eCl a9l (b8 (l0 (iI (iL (b7 0))) [1] pt1 tT (eCl R4 (b8 (b7 0) (b8 (b7 1) g8)))) g8)) (e2 dEq (b7 0) (a0q (b7 0))))))
def a0B:=fnD [.f,.i] 0 a6p
abbrev a6q(B:Bk P w K mg base)(k:Nat):=HB B "is_set" k ["thing","states"] (spD K 2 a0B .i)
def b0x(B:Bk P w K mg base)(gZ:S6 B 2)(jP:a2T B 2):a6q B 3:=
 p5 B.d20 λ_ _ F=>fnF F ["thing","states"] λ_ _ _ _ _ _ _ hr=>by exact g9 (l6 (b9 (a0M (D4 gZ hr (i5 (e7 0) (i5 (c9 1) m6))) (a0M (a6R (b1o rfl) B.all_ PyProof.Rows.Boot.«all» (i5 (L9 rfl (tn:=["state"]) (ys:=["states"]) (js:=[1]) (m:=.i) (PIX.i (v6 (PX.newf (e7 0)))) rfl (λ_ _ _ _ _=>x0 (i:=0) c0Z rfl (cn rfl) (.inr rfl)) B6 (.inl rfl) a2j rfl (λ_ _ _ _ _=>V0) (λ_ _ _ _ _=>(D4 jP hr (i5 (c9 0) (i5 (c9 1) m6))))) m6)) (a2e (a4D I9 (e7 0) (a7A rfl B.set_ B.sorted_ (e7 0))))))))
def a2U:EvS:=(sIf (tNo (tV (eCl a0B (b8 (b7 1) (b8 (eCl y6 (b8 (b7 0) g8)) g8))))) sNo q8)
def R5:=fnN [.f,.f] 0 a2U
abbrev a2V(B:Bk P w K mg base)(k:Nat):=HB B "need_set" k ["machine","thing"] (spD K 2 R5 .i)
def a6r(B:Bk P w K mg base)(lA:a6q B 3):a2V B 4:=
 p5 B.d21 λ_ _ F=>b9m F ["machine","thing"] [.own .f,.own .f] λ_ _ _ _ _ _ _ hr=>by exact g9 (z9 (M':=[mdF,mdF]) (a4E (a0f (D4 lA hr (i5 (e7 1) (i5 (E5 B.len_ (e7 0)) m6))))) (g9 (b5y)) s9)
def a5e(rc:List D→Option D):EvS:=(i4 (sIf (tB (e2 dEq (eCl a5G (b8 (b7 2) g8)) (eC (.int 1)))) (n5 (e2 D5 (a4Q (b7 2)) (eC (.int 0)))) q8) (i4 (j8 3 (e2 (X0 true) (b7 1) (w6 (H9 false (b7 2))))) (i4 (j8 4 (eCl w9 (b8 (b7 0) (b8 (b7 2) (b8 (b7 3) g8))))) (i4 (j8 5 (J1 g8)) (i4 (E1 (iI (iL (H9 false (b7 4)))) (x9 6) (D6 5 (.l .f) q9 (N7 (b8 (b7 6) (b8 (eCl rc (b8 (b7 0) (b8 (b7 1) (b8 (e2 (X0 false) (b7 4) (b7 6)) g8)))) g8))))) (n5 (N7 (b8 (b7 3) (b8 (b7 5) g8)))))))))
def J6:Nat→List D→Option D
 |0=>λ_=>p4
 |n+1=>fnD [.f,.f,.f] 4 (a5e (J6 n))
abbrev b4X(B:Bk P w K mg base)(k:Nat):=HB B "grown" k ["machine","asks","begun"] (spD K 3 (J6 27) .f)
def b2S(B:Bk P w K mg base)(mW:U2 B 1):∀n:Nat,Has P w K mg base "grown" (2+n) ["machine","asks","begun"] (spD K 3 (J6 n) .f):=by
 intro n
 induction n with
 |zero=>exact p5 B.d22 λ_ _ _=>b4G
 |succ n kc=>
  have fY:=mW.up (show 1≤2+n by lia);exact p5 B.d22 λ_ _ F=>fnF F ["machine","asks","begun","ask","parts","branches","answer"] λsc _ _ _ _ _ _ hr=>by exact c7 (z9 (M':=[mdF,mdF,mdF,mdD,mdD,mdD,mdD]) (n4 I9 (a6f B.len_ (e7 2)) e6) (g9 (l6 (b9 (PX.itof (D9 (b1I rfl B.list_ (e7 2)) e6))))) s9) (c7 (j9 3 (t:=.f) sc.nd (b9 (a1N (kt:=true) (by exact hr.units) (PX.newf (e7 1)) (N9 B.tuple_ (a2z false rfl B.sorted_ (e7 2)))))) (c7 (j9 4 (t:=.f) sc.nd (b9 (by exact G7 (u:=.f) fY hr (n9 (PX.newf (e7 0)) (n9 (PX.newf (e7 2)) (n9 (PX.newf (e7 3)) (M7)))) (hfl:=(j7 (j7 (j7 C6))))))) (c7 (j9 5 (t:=(.l .f)) sc.nd (b9 (K8 (n:=0) (u:=.f) p9))) (c7 (C4 (M:=[mdF,mdF,mdF,mdF,mdF,.own (.l .f),mdD]) (MB:=[mdF,mdF,mdF,mdF,mdF,.own (.l .f),mdI]) rfl cf (PIX.i (v6 (PX.frz (a2z false rfl B.sorted_ (e7 4))))) (B4 6 sc.nd) E2 a5F (PSsX.weak (M2:=[mdF,mdF,mdF,mdF,mdF,.own (.l .f),mdI]) (g9 (T8 5 (u:=(.l .f)) (t:=.f) (M3 5 (u:=(.l .f))) (b9 (PX.frz (b1n (us:=[.i,.f]) (B2 (u:=.i) (PX.newi (c9 6)) (B2 (u:=.f) (by exact G7 (u:=.f) kc hr (n9 (PX.newf (e7 0)) (n9 (PX.newf (e7 1)) (n9 (a1N (kt:=false) (by exact hr.units) (PX.newf (e7 4)) (c9 6)) (M7)))) (hfl:=(j7 (j7 (j7 C6))))) p9))))) a1l)) l8 (k8 6))) (g9 (PSX.weak (M1:=[mdF,mdF,mdF,mdF,mdF,mdF,mdD]) (l6 (b9 (PX.frz (b1n (us:=[.f,.f]) (B2 (u:=.f) (PX.newf (e7 3)) (B2 (u:=.f) (PX.newf (e7 5)) p9)))))) (G9 5) l8))))))
def Y0:EvS:=(i4 (j8 2 (eCl u6 (b8 (b7 0) g8))) (i4 (sIf (tB (e2 (v9 true true) (w6 (b7 1)) (b7 2))) (n5 (eC .none)) q8) (n5 (eCl (J6 27) (b8 (b7 0) (b8 (b7 2) (b8 (G8 true (b7 1) (b7 1)) g8)))))))
def z7:=fnD [.f,.f] 1 Y0
abbrev Y1(B:Bk P w K mg base)(k:Nat):=HB B "tree_of_set" k ["machine","states"] (spD K 2 z7 .f)
def a2W(B:Bk P w K mg base)(fQ:R0 B 29)(kc:b4X B 29):Y1 B 30:=
 p5 B.d23 λ_ _ F=>fnF F ["machine","states","asks"] λsc _ _ _ _ _ _ hr=>by exact c7 (j9 2 (t:=.f) sc.nd (b9 (by exact G7 (u:=.f) fQ hr (n9 (PX.newf (e7 0)) (M7)) (hfl:=(j7 C6))))) (c7 (z9 (M':=[mdF,mdF,mdF]) (V9 (kt:=true) (V6 (by exact hr.units)) (N9 B.tuple_ (e7 1)) (e7 2)) (g9 (l6 (b9 (PX.itof Q1)))) s9) (g9 (l6 (b9 (by exact G7 (u:=.f) kc hr (n9 (PX.newf (e7 0)) (n9 (PX.newf (e7 2)) (n9 (PX.frz (a2J true rfl (by exact hr.units) B.dict_ B.zip_ (PX.newf (e7 1)) (PX.newf (e7 1)))) (M7)))) (hfl:=(j7 (j7 (j7 C6)))))))))
def a4c:EvS:=(i4 (sEx (eCl u5 (b8 (b7 0) g8))) (i4 (sEx (eCl R5 (b8 (b7 0) (b8 (b7 1) g8)))) (n5 (eCl z7 (b8 (b7 0) (b8 (b7 1) g8))))))
def A8:=fnD [.f,.f] 0 a4c
abbrev a4d(B:Bk P w K mg base)(k:Nat):=HB B "tree_of" k ["machine","states"] (spD K 2 A8 .f)
def a7U(B:Bk P w K mg base)(dR:E6 B 30)(jL:a2V B 30)(iB:Y1 B 30):a4d B 31:=
 p5 B.d24 λ_ _ F=>fnF F ["machine","states"] λ_ _ _ _ _ _ _ hr=>by exact c7 (a4M (D4 dR hr (i5 (e7 0) m6))) (c7 (a4M (D4 jL hr (i5 (e7 0) (i5 (e7 1) m6)))) (g9 (l6 (b9 (by exact G7 (u:=.f) iB hr (n9 (PX.newf (e7 0)) (n9 (PX.newf (e7 1)) (M7))) (hfl:=(j7 (j7 C6))))))))
def b_law:EvS:=(i4 (j8 1 (eCl m_law_machine (b8 (b7 0) (b8 (eC (.int 4)) (b8 (eC (.int 5)) g8))))) (i4 (j8 2 (l0 (iL (b7 1)) [] pt1 tT (eI (L7 (b7 0))))) (i4 (j8 3 (eCl a0A (b8 (b7 2) g8))) (i4 (sIf (W8 (tNo (tV (e1 (λd=>el (.bool (isList d))) (b7 3)))) (tB (e2 dNe (l0 (iL (b7 3)) [] pt1 (tNo (tV (e1 (λd=>el (.bool (isList d))) (b7 0)))) (b7 0)) (J1 g8)))) (n5 (eC (.bool false))) q8) (i4 (j8 4 (eC (.dict []))) (i4 (E1 (iL (b7 3)) (x9 5) (B3 4 true (w6 (b7 5)) (eC (.bool true)))) (i4 (E1 (iI (iL (eCl m_law_sets (b8 (eCl y6 (b8 (b7 1) g8)) g8)))) (x9 5) (i4 (sIf (W8 (tB (e2 dNe (e2 (N1 false) (eCl A8 (b8 (b7 2) (b8 (eI (L7 (b7 5))) g8))) (eC .none)) (e2 (v9 false true) (b7 5) (b7 4)))) (tB (e2 dNe (b7 2) (b7 1)))) (n5 (eC (.bool false))) q8) (i4 (j8 6 (l0 (iR (eCl y6 (b8 (e2 dIx (b7 1) (eC (.int 0))) g8))) [1,4,5] pt1 (tV (eCl m_law_free (b8 (b7 1) (b8 (b7 2) (b8 (b7 3) (b8 (b7 0) g8)))))) (b7 0))) (i4 (sIf (tAn (W8 (tB (e2 dEq (eCl y6 (b8 (b7 5) g8)) (eC (.int 1)))) (tB (e2 dNe (b7 6) (J1 g8)))) (tB (e2 (v9 false true) (b7 5) (b7 4)))) (n5 (eC (.bool false))) q8) (i4 (sIf (tB (e2 (v9 false true) (b7 5) (b7 4))) b1u q8) (E1 (iI (iT (b7 5))) (x9 7) (i4 (j8 8 (w6 (l0 (iI (iT (b7 5))) [7] pt1 (tB (e2 dNe (b7 0) (b7 1))) (b7 0)))) (sIf (tB (e2 (v9 false true) (b7 8) (b7 4))) (n5 (eC (.bool false))) q8)))))))) (n5 (a4C (e2 dEq (eCl a5G (b8 (b7 4) g8)) (eCl y6 (b8 (b7 3) g8))) (e2 (b6z false) (b1Z true (b7 4) (N7 g8) (eC (.bool false))) (eC (.bool false))))))))))))
def m_law:=fnD [.f] 8 b_law
def ok_law(B:Bk P w K mg base)(iE:X7 B 31)(mr:a8M B 31)(jM:a2O B 31)(jN:a2P B 31)(kz:a4d B 31)(F:Fun K "law" "law" (top 36) f fd):FnOk P w K mg base CX0 32 f fd ["_law_script"] (spD K 1 m_law .i):=
 fnF F ["_law_script","_law_table","_law_handed","_law_found","_law_known","_law_one","_law_free_here","_law_s","_law_rest"] λsc _ _ _ _ _ _ hr=>by exact c7 (j9 1 (t:=(.l (.l .i))) sc.nd (b9 (D4 iE hr (i5 (e7 0) (i5 e6 (i5 e6 m6)))))) (c7 (PSX.weak (M1:=[mdF,mdF,mdD,mdD,mdD,mdD,mdD,mdD,mdD]) (Q2 2 (t:=(.l .i)) sc.nd rfl (tn:=["_law_row"]) (ys:=[]) (js:=[]) (mm:=.f) (v6 (PX.newf (e7 1))) rfl (λ_ _ _ _ _=>x0 (i:=0) c1a rfl (cn rfl) (.inr rfl)) B6 (.inr rfl) a8k rfl (λ_ _ _ _ _=>V0) (λ_ _ _ _ _=>(MkL.i (a4J B.list_ (PX.newf (e7 0)))))) (G9 1) l8) (c7 (j9 3 (t:=(.l (.l .i))) sc.nd (b9 (D4 mr hr (i5 (K7 2 (u:=(.l (.l .i)))) m6)))) (c7 (PSX.weak (M1:=[mdF,mdF,L3,mdF,mdD,mdD,mdD,mdD,mdD]) (z9 (M':=[mdF,mdF,L3,mdF,mdD,mdD,mdD,mdD,mdD]) (PWX.pt (a6O (a4E (a0f (a2h a2i B.isinstance_ B.list_ PyProof.Rows.Boot.«list» (e7 3)))) (a4F (n4 a2L (L9 rfl (tn:=["_law_one"]) (ys:=[]) (js:=[]) (m:=.f) (v6 (PX.newf (e7 3))) rfl (λ_ _ _ _ _=>x0 (i:=0) b9H rfl (cn rfl) (.inr rfl)) B6 (.inr rfl) a8k rfl (λ_ _ _ _ _=>a0N (a4E (a0f (a2h a2i B.isinstance_ B.list_ PyProof.Rows.Boot.«list» (e7 0))))) (λ_ _ _ _ _=>(PX.newf (e7 0)))) (K8 (n:=0) (u:=.i) p9))))) (g9 (l6 (b9 X4))) s9) (G9 3) l8) (c7 (j9 4 (t:=(.d true .i)) sc.nd (b9 (O4 true .i))) (c7 (C4 (M:=[mdF,mdF,L3,mdF,.own (.d true .i),mdD,mdD,mdD,mdD]) (MB:=[mdF,mdF,L3,mdF,.own (.d true .i),mdF,mdD,mdD,mdD]) rfl cf (v6 (PX.newf (e7 3))) (B4 5 sc.nd) b6H (λ_ _ _ _ _=>trivial) (PSsX.weak (M2:=[mdF,mdF,L3,mdF,.own (.d true .i),mdF,mdD,mdD,mdD]) (g9 (a0n 4 (kt:=true) (u:=.i) (by exact hr.units) (N9 B.tuple_ (e7 5)) (b9 X4))) l8 (k8 5))) (c7 (PSX.weak (M1:=[mdF,mdF,L3,mdF,mdF,mdD,mdD,mdD,mdD]) (C4 (M:=[mdF,mdF,L3,mdF,mdF,mdD,mdD,mdD,mdD]) (MB:=[mdF,mdF,L3,mdF,mdF,mdI,mdD,mdD,mdD]) rfl cf (PIX.i (v6 (PX.frz (D4 jM hr (i5 (E5 B.len_ (e7 1)) m6))))) (B4 5 sc.nd) E2 a5F (PSsX.weak (M2:=[mdF,mdF,L3,mdF,mdF,mdI,mdL,mdD,mdD]) (c7 (z9 (M':=[mdF,mdF,L3,mdF,mdF,mdI,mdD,mdD,mdD]) (PWX.pt (a6O (n4 a2L (a4D b1k (b1J kz hr (i5 (K7 2 (u:=(.l (.l .i)))) (i5 (MkL.i (a4J B.list_ (PX.newi (c9 5)))) m6)) (hfl:=(j7 (j7 C6)))) Q1) (b1L (kt:=true) (Y7 (by exact hr.units)) (c9 5) (e7 4))) (a4F (n4 a2L (K7 2 (u:=(.l (.l .i)))) (e7 1))))) (g9 (l6 (b9 X4))) s9) (c7 (Q2 6 (t:=.i) sc.nd rfl (tn:=["_law_ask"]) (ys:=["_law_table","_law_known","_law_one"]) (js:=[1,4,5]) (mm:=.i) (A7 B.range_ (E5 B.len_ (a4G (PX.newf (e7 1)) e6))) rfl (λ_ _ _ _ _=>x0 (i:=0) b9I rfl (cn rfl) (.inr rfl)) B6 (.inl rfl) b1t rfl (λ_ _ _ _ _=>a0N (a0f (D4 jN hr (i5 (e7 1) (i5 (e7 2) (i5 (c9 3) (i5 (c9 0) m6))))))) (λ_ _ _ _ _=>(PX.newi (c9 0)))) (c7 (z9 (M':=[mdF,mdF,L3,mdF,mdF,mdI,mdL,mdD,mdD]) (PWX.pt (a8h (PWX.pt (a6O (n4 I9 (E5 B.len_ (c9 5)) e6) (a4F (n4 a2L (E9 6) (K8 (n:=0) (u:=.i) p9))))) (a5w (V9 (kt:=true) (Y7 (by exact hr.units)) (c9 5) (e7 4))))) (g9 (l6 (b9 X4))) s9) (c7 (z9 (M':=[mdF,mdF,L3,mdF,mdF,mdI,mdL,mdD,mdD]) (V9 (kt:=true) (Y7 (by exact hr.units)) (c9 5) (e7 4)) (g9 (PSX.weak (M1:=[mdF,mdF,L3,mdF,mdF,mdD,mdD,mdD,mdD]) (b6G) ((k8 5).trans (k8 6)) l8)) s9) (g9 (C4 (M:=[mdF,mdF,L3,mdF,mdF,mdI,mdL,mdD,mdD]) (MB:=[mdF,mdF,L3,mdF,mdF,mdI,mdL,mdI,mdD]) rfl cf (PIX.i (a4K (PX.newi (c9 5)))) (B4 7 sc.nd) E2 a5F (PSsX.weak (M2:=[mdF,mdF,L3,mdF,mdF,mdI,mdL,mdI,mdI]) (c7 (j9 8 (t:=.i) sc.nd (b9 (N9 B.tuple_ (L9 rfl (tn:=["_law_t"]) (ys:=["_law_s"]) (js:=[7]) (m:=.i) (PIX.i (a4K (PX.newi (c9 5)))) rfl (λ_ _ _ _ _=>x0 (i:=0) b9J rfl (cn rfl) (.inr rfl)) B6 (.inl rfl) a2j rfl (λ_ _ _ _ _=>a0N (n4 a2L (c9 0) (c9 1))) (λ_ _ _ _ _=>(PX.newi (c9 0))))))) (g9 (z9 (M':=[mdF,mdF,L3,mdF,mdF,mdI,mdL,mdI,mdI]) (V9 (kt:=true) (Y7 (by exact hr.units)) (c9 8) (e7 4)) (g9 (l6 (b9 X4))) s9))) l8 ((k8 7).trans (k8 8))))))))) l8 ((k8 5).trans (k8 6)))) (G9 4) l8) (g9 (l6 (b9 (a0M (a4D I9 (a6f B.len_ (e7 4)) (E5 B.len_ (e7 3))) (a2e (a4D b6B (b4y (kt:=true) (by exact hr.units) (PX.newf (e7 4)) (U9 (n:=0) p9) X4) X4))))))))))))
end Prog
namespace VS
open PySem L2
abbrev Ky:=List (Int×Int)
def snoc_ind{P:List α→Prop}(h0:P [])(h1:∀l x,P l→P (l++[x]))(l:List α):P l:=by
 have h:∀r:List α,P r.reverse:=by
  intro r
  induction r with
  |nil=>exact h0
  |cons x r ih=>rw[nj];exact h1 _ _ ih
 have:=h l.reverse
 rwa[List.reverse_reverse]at this
def c1b(seen:List Ky)(x:Ky):List Ky:=if x∈seen then seen else seen++[x]
def ded(ks:List Ky):List Ky:=ks.foldl c1b []
def c1c(ks:List Ky):List Int:=ks.map λx=>(((ded ks).idxOf x:Nat):Int)
def rn(r:Ky)(ls:List Int):Ky:=r.map λp=>(p.1,ls.getD p.2.toNat 0)
def lvl(m:m4):Nat→List Int
 |0=>m.map λ_=>0
 |d+1=>c1c (m.map λr=>rn r (lvl m d))
def kf(m:m4):Nat→Ky→Ky
 |0,_=>[]
 |d+1,r=>rn r (lvl m d)
def cls(m:m4)(d:Nat):Nat:=(ded (m.map (kf m d))).length
def lv(m:m4)(d:Nat)(s:Int):Int:=(lvl m d).getD s.toNat 0
def fp:Ky→Ky→Nat
 |x::xs,y::ys=>if x=y then fp xs ys+1 else 0
 |_,_=>0
def fa(m:m4)(d:Nat)(s t:Int):Int:=(fp (rn (rowAt m s) (lvl m d)) (rn (rowAt m t) (lvl m d)):Nat)
theorem a8N{I:Nat→List D→Prop}{Q:List D→Prop}(B:Nat)(step:∀j ρ,I j ρ→j≤B∧((c ρ=el false∧Q ρ)∨(c ρ=el true∧∃ρ',g ρ=el (.nx ρ')∧I (j+1) ρ'))):∀n j ρ,I j ρ→B<n+j→∃ρ',whL c g n ρ=el (.nx ρ')∧Q ρ'
 |0,j,ρ,h,hn=>absurd (step j ρ h).1 (by lia)
 |n+1,j,ρ,h,hn=>by
  rcases (step j ρ h).2 with⟨e,q⟩|⟨e,ρ',e2,h2⟩
  ·refine⟨ρ,?_,q⟩;show (c ρ).bind _=_;rw[e];rfl
  ·obtain⟨ρ2,e3,q⟩:=a8N B step n (j+1) ρ' h2 (by lia);refine⟨ρ2,?_,q⟩;show (c ρ).bind _=_;rw[e];show (g ρ).bind _=_;rw[e2];exact e3
def c1d:sWh (λ_=>n) c g ρ=whL c g n ρ:=rfl
def c1e(x:Ky):D:=.tuple (x.map stD)
def dz:List Ky→Nat→List (D×D)
 |[],_=>[]
 |x::xs,i=>(c1e x,.int i)::dz xs (i+1)
theorem a1c(p:α→Bool)(f:α→D):∀{xs:List α},(∀x∈xs,∃bs,pt (enc x)=el bs∧t (bs++cs)=el (p x)∧(p x=true→g (bs++cs)=el (f x)))→L8 pt t g cs (xs.map enc)=el ((xs.filter p).map f)
 |[],_=>rfl
 |x::xs,h=>by
  obtain⟨bs,h1,h2,h3⟩:=h x aj;have ih:=a1c p f (xs:=xs) λe he=>h e (aq _ he)
  show (pt (enc x)).bind _=_;rw[h1];show (t (bs++cs)).bind _=_;rw[h2];cases c:p x with
  |true=>
   rw[eB c];show (g (bs++cs)).bind _=_;rw[h3 c];show (L8 pt t g cs (xs.map enc)).bind _=_;rw[ih];rfl
  |false=>
   rw[eD (by rw[c];decide)];exact ih
def a8O{js:List Nat}(p:Nat→Bool)(f:Nat→D)(hf:fi ρ=el (F6 0 n))(hl:n≤1000000)(h:∀k:Nat,k<n→t (.int k::js.map λj=>ρ.getD j .none)=el (p k)∧(p k=true→g (.int k::js.map λj=>ρ.getD j .none)=el (f k))) :
  l0 fi js pt1 t g ρ=el (.list (((aX n).filter p).map f)):=by
 unfold l0;rw[hf];show (if (F6 0 n).length≤1000000 then _ else p4)=_;rw[aB (by rw[a7a];exact hl),a3Y,a1c (enc:=λ(k:Nat)=>ay k) p f]
 ·rfl
 ·intro x hx;have:=h x (b_.mp hx);exact⟨[.int x],rfl,this.1,this.2⟩
def b0y{l:List Int}(h:i<l.length):l.getD i 0∈l:=by
 rw[aM,ak h];exact cG _
theorem a4e(f:α→D):∀{xs:List α},(∀x∈xs,∃bs,pt (enc x)=el bs∧g (bs++cs)=el (f x))→L8 pt tT g cs (xs.map enc)=el (xs.map f)
 |[],_=>rfl
 |x::xs,h=>by
  obtain⟨bs,h1,h2⟩:=h x aj;have ih:=a4e f (xs:=xs) λe he=>h e (aq _ he)
  show (pt (enc x)).bind _=_;rw[h1];show (g (bs++cs)).bind _=_;rw[h2];show (L8 pt tT g cs (xs.map enc)).bind _=_;rw[ih];rfl
def a5f{js:List Nat}{xs:List α}(f:α→D)(hf:fi ρ=el (xs.map enc))(hl:xs.length≤1000000)(h:∀x∈xs,∃bs,pt (enc x)=el bs∧g (bs++js.map λj=>ρ.getD j .none)=el (f x)) :
  l0 fi js pt tT g ρ=el (.list (xs.map f)):=by
 unfold l0;rw[hf];show (if (xs.map enc).length≤1000000 then _ else p4)=_;rw[aB (by rw[ar];exact hl),a4e f h];rfl
def c1f(h:a ρ=el (.list ds)):iEn a ρ=el (L1 ds 0):=by
 unfold iEn;rw[h];rfl
section
variable {β α:Type}[DecidableEq β]
def dd1(W:List (β×α))(c:β×α):List (β×α):=if c.1∈W.map (·.1) then W else W++[c]
def dd(W C:List (β×α)):List (β×α):=C.foldl dd1 W
variable {W C C':List (β×α)}{c:β×α}{t:β}
end
def a6s{n:Nat}:∀{l:List Int},l.Nodup→(∀x∈l,0≤x∧x<(n:Int))→l.length≤n:=by
 induction n with
 |zero=>
  intro l _ h;cases l with
  |nil=>exact aD _
  |cons x l=>have:=h x (by simp);lia
 |succ n ih=>
  intro l hd h;have h1:=ih (l:=l.erase (n:Int)) (hd.erase _) λx hx=>by
   have h2:=(List.Nodup.mem_erase_iff hd).mp hx;have:=h x h2.2;have:=h2.1;lia
  have h2:=List.length_erase (a:=(n:Int)) (l:=l);by_cases c:(n:Int)∈l
  ·rw[aB c]at h2;lia
  ·rw[aI c]at h2;lia
def wl:List Int→List Int→Prop
 |a::p,b::q=>a<b∨(a=b∧wl p q)
 |_,_=>False
def bf(p q:List Int):Prop:=p.length<q.length∨(p.length=q.length∧wl p q)
abbrev b0z:=List (Int×List Int)
def b9K(m:m4)(k:Nat)(e:Int×List Int):b0z:=(aX k).map λ(a:Nat)=>((stp m e.1 a).2,e.2++[(a:Int)])
abbrev W0:b0z:=[(0,[])]
abbrev Sor(W:b0z):Prop:=W.Pairwise λa b=>bf a.2 b.2
structure Met (m:m4) (k:Nat) (dn W:b0z):Prop where
 eq:W=dd W0 (dn.flatMap (b9K m k))
 pre:∃nw,W=dn++nw
 sor:Sor W
 ql:∀e∈W,e.2.length≤dn.length
structure AllMet (m:m4) (k:Nat) (W:b0z):Prop where
 eq:W=dd W0 (W.flatMap (b9K m k))
 sor:Sor W
 range:∀e∈W,0≤e.1∧e.1<(m.length:Int)
 ql:∀e∈W,e.2.length≤W.length
section
variable {α:Type}
def kvD(enc:α→D)(W:List (Int×α)):List (D×D):=W.map λe=>(ay e.1,enc e.2)
variable {enc:α→D}{W:List (Int×α)}{t:Int}{x:α}
def a8P:(kvD enc W).length=W.length:=ar ..
def b4Y{V:List (Int×α)}:kvD enc (W++V)=kvD enc W++kvD enc V:=aT ..
def a1R:v7 (kvD enc W) (.int t)=decide (t∈W.map (·.1)):=by
 induction W with
 |nil=>rfl
 |cons e W ih=>
  show (aJ (.int e.1) (.int t)||v7 (kvD enc W) (.int t))=_;rw[a1Q,ih];by_cases h1:e.1=t
  ·simp[h1]
  ·have h2:t≠e.1:=λz=>h1 z.symm
   simp[h1,h2]
def b2T(h:t∉W.map (·.1)):n8 (kvD enc W) (.int t) (enc x)=kvD enc (W++[(t,x)]):=by
 unfold n8;rw[a1R,aR h,b4Y];rfl
def dKey_i{t:Int}:m9 false (.int t)=true:=rfl
def a8Q:(kvD enc W).all (λp=>m9 false p.1)=true:=by
 unfold kvD;rw[List.all_map,bj];exact λe _=>dKey_i
def b2U:(kvD enc W).map (·.1)=(W.map (·.1)).map ay:=by unfold kvD;rw[bO,bO];rfl
def b2V:(kvD enc W).map (·.2)=(W.map (·.2)).map enc:=by unfold kvD;rw[bO,bO];rfl
def b7S:dIn neg false (.int t) (.dict (kvD enc W))=el (.bool (neg !=decide (t∈W.map (·.1)))):=by
 show (if m9 false (.int t) then el (df (neg !=v7 (kvD enc W) (.int t))) else p4)=_;rw[dKey_i,a1R];rfl
end
def b2W(hv:fv ρ=el d)(hk:fk ρ=el k)(hd:ρ.getD i .none=.dict kvs)(hK:m9 kt k=true)(hl:kvs.length<1000000) :
  B3 i kt fk fv ρ=el (.nx (ρ.set i (.dict (n8 kvs k d)))):=by
 unfold B3;rw[hv];show (fk ρ).bind _=_;rw[hk];show (match ρ.getD i .none with|.dict kvs=>_|_=>_)=_;rw[hd];show (if _ then _ else _)=_;rw[aB (by rw[hK,aH hl];rfl)]
def b4Z(h:a ρ=el (.dict (kvD ay W))):a4Q a ρ=el (.list ((W.map (·.2)).map .int)):=by
 unfold a4Q;rw[h];show (if _ then _ else _)=_;rw[aB (by rw[a8Q,b2V,r9 _ (λ_=>a0j)];rfl),b2V]
section
variable {β:Type}[DecidableEq β]
abbrev a4f(β:Type):=List (β×List Int)
def b5I(nx:β→Nat→β)(k:Nat)(e:β×List Int):a4f β:=(aX k).map λ(a:Nat)=>(nx e.1 a,e.2++[(a:Int)])
abbrev WB(s:β):a4f β:=[(s,[])]
abbrev b9L(W:a4f β):Prop:=W.Pairwise λa b=>bf a.2 b.2
variable {nx:β→Nat→β}{k:Nat}{s:β}
structure MetB (nx:β→Nat→β) (k:Nat) (s:β) (P:β→Prop) (dn W:a4f β):Prop where
 eq:W=dd (WB s) (dn.flatMap (b5I nx k))
 pre:∃nw,W=dn++nw
 sor:b9L W
 ql:∀e∈W,e.2.length≤dn.length
 ok:∀e∈W,P e.1
structure AllB (nx:β→Nat→β) (k:Nat) (s:β) (P:β→Prop) (W:a4f β):Prop where
 eq:W=dd (WB s) (W.flatMap (b5I nx k))
 sor:b9L W
 ql:∀e∈W,e.2.length≤W.length
 ok:∀e∈W,P e.1
end
section
variable {β α:Type}[DecidableEq β]
structure KeyB (kt:Bool) (key:β→D):Prop where
 eqv:∀a b,aJ (key a) (key b)=decide (a=b)
 ok:∀a,m9 kt (key a)=true
 im:∀a,imm (key a)=true
variable {key:β→D}{enc:α→D}{W:List (β×α)}{t:β}{x:α}{kt:Bool}
end
def b5J(h:argsOk us ds=true):fnL us n g gm ds=a2n (g gm (ds++(.none::aO n .none))):=by
 unfold fnL;rw[aB h];cases g gm (ds++(.none::aO n .none)) with
 |none=>rfl
 |some o=>cases o<;>rfl
def b9M(h:f ρ=el ds):b4F m us js fb f ρ=m (fnE us (js.map λj=>ρ.getD j .none) fb) ds:=by
 unfold b4F;rw[h];rfl
def b9N(h:argsOk us ds=true):fnE us qB f ds=f (ds++qB):=aB h
def b5K(h:f ρ=el ds):b0a m gm f ρ=m gm ds:=by
 unfold b0a;rw[h];rfl
def b7T(h:a ρ=el (.tuple ds)):iT a ρ=el ds:=by
 unfold iT;rw[h];rfl
abbrev PW:=List ((Int×Int)×List Int)
def P5{ns:List Int}{j:Int}(a:0≤j)(b:j<ns.length):L2.atI (ns.map ay) j=el (.int (ns.getD j.toNat 0)):=by
 rw[a4N a (by rw[ar];exact b),iG];rw[aM,ak (by lia)];rfl
def a1S{js:List Nat}{xs:List α}(p:α→Bool)(f:α→D)(hf:fi ρ=el (xs.map enc))(hl:xs.length≤1000000)(h:∀x∈xs,∃bs,pt (enc x)=el bs∧t (bs++js.map λj=>ρ.getD j .none)=el (p x)∧(p x=true→g (bs++js.map λj=>ρ.getD j .none)=el (f x))) :
  l0 fi js pt t g ρ=el (.list ((xs.filter p).map f)):=by
 unfold l0;rw[hf];show (if (xs.map enc).length≤1000000 then _ else p4)=_;rw[aB (by rw[ar];exact hl),a1c p f h];rfl
def W4{α:Type}{enc:α→D}{set:List D→D→Option (List D)}{g:EvS}{xs:List α}{ρ:List D}(I:List α→List D→Prop)(R:D→Prop)(h0:I [] ρ)
  (step:∀pre x post,xs=pre++x::post→∀ρ,I pre ρ→∃ρ1,set ρ (enc x)=el ρ1∧((∃ρ2,g ρ1=el (.nx ρ2)∧I (pre++[x]) ρ2)∨∃d,g ρ1=el (.rt d)∧R d)) :
  (∃ρ',O1 set g (xs.map enc) ρ=el (.nx ρ')∧I xs ρ')∨∃d,O1 set g (xs.map enc) ρ=el (.rt d)∧R d:=by
 have key:∀(post pre:List α) (ρ:List D),xs=pre++post→I pre ρ→(∃ρ',O1 set g (post.map enc) ρ=el (.nx ρ')∧I xs ρ')∨∃d,O1 set g (post.map enc) ρ=el (.rt d)∧R d:=by
  intro post
  induction post with
  |nil=>
   intro pre ρ e h;rw[bE]at e;subst e;exact .inl ⟨ρ,rfl,h⟩
  |cons x post ih=>
   intro pre ρ e h;obtain⟨ρ1,h1,h2⟩:=step pre x post e ρ h;rcases h2 with⟨ρ2,h2,h3⟩|⟨d,h2,h3⟩
   ·rcases ih (pre++[x]) ρ2 (by rw[e,bp];rfl) h3 with⟨ρ',h4,h5⟩|⟨d,h4,h5⟩
    ·refine .inl ⟨ρ',?_,h5⟩;show (set ρ (enc x)).bind _=_;rw[h1];show (g ρ1).bind _=_;rw[h2];exact h4
    ·refine .inr ⟨d,?_,h5⟩;show (set ρ (enc x)).bind _=_;rw[h1];show (g ρ1).bind _=_;rw[h2];exact h4
   ·refine .inr ⟨d,?_,h3⟩;show (set ρ (enc x)).bind _=_;rw[h1];show (g ρ1).bind _=_;rw[h2];rfl
 exact key xs [] ρ rfl h0
end VS
namespace Prog
open PySem L2 VS
abbrev GA:=List (List Int×List Int)
def f8(a:List Int):D:=.tuple (a.map .int)
def P6(e:Int)(es:List Int):List Int:=if e∈es then es else es++[e]
def U3(a b:List Int):aJ (f8 a) (f8 b)=decide (a=b):=by
 unfold f8;simp only[aJ];exact a0v a b
theorem a1E:∀a:List Int,o8 (a.map ay)=true
 |[]=>by simp only[cU,o8]
 |n::a=>by simp only[aA,o8,A5,a1E a,fV]
def a7V(a:List Int):(f8 a).depth≤7:=by
 unfold f8;simp only[gg];have:=O8 ay 0 (λ_=>by rw[W2];exact aD _) a;lia
def b0A(a:List Int):A5 (f8 a)=true:=by
 unfold f8;simp only[A5];exact a1E a
def J9(a:List Int):m9 true (f8 a)=true:=by
 unfold m9;rw[b0A,aH (a7V a)];rfl
def dKey_i(e:Int):m9 false (.int e)=true:=by
 unfold m9;rw[show A5 (.int e)=true by simp only[A5],show (ay e).depth=0 from W2];rfl
def a2X:x∈P6 e es↔x∈es∨x=e:=by
 unfold P6;by_cases c:e∈es
 ·rw[aB c];exact⟨.inl,λh=>h.elim id λz=>z▸c⟩
 ·rw[aI c,aF,ao]
structure DdOk (f:Int→List Int×Int) (ss:List Int) (dd:GA):Prop where
 nd:(dd.map (·.1)).Nodup
 keys:∀a,a∈dd.map (·.1)↔∃s∈ss,(f s).1=a
 mem:∀q∈dd,∀e,e∈q.2↔∃s∈ss,f s=(q.1,e)
 nd2:∀q∈dd,q.2.Nodup
 len:dd.length≤ss.length
 b4u:∀q∈dd,q.2.length≤ss.length
def a2Y(es:List Int):List Int:=(X1 (es.map λe=>[e])).map λl=>l.headD 0
def W5(es:List Int):(a2Y es).Perm es:=by
 unfold a2Y;refine ((D0 _).map _).trans (Gp ?_);rw[bO];exact gD es
def a4g(es:List Int):X1 (es.map λe=>[e])=(a2Y es).map λe=>[e]:=by
 unfold a2Y;rw[bO];have:∀l∈X1 (es.map λe=>[e]),((λe=>[e]) ∘ λl:List Int=>l.headD 0) l=l:=λl hl=>by
  obtain⟨e,_,rfl⟩:=aY.mp ((D0 _).mem_iff.mp hl);rfl
 rw[cD this,gD]
theorem a2Z:∀as:List (List Int),a2x true (as.map f8)=el as
 |[]=>rfl
 |a::as=>by
  have h:intsOf (a.map ay)=el a:=by
   induction a with
   |nil=>rfl
   |cons n a ih=>rw[aA];show (intsOf (a.map ay)).map (n::·)=_;rw[ih];rfl
  rw[aA];show (intsOf (a.map ay)).bind _=_;rw[h,bH,a2Z as];rfl
theorem a3a:∀es:List Int,a2x false (es.map ay)=el (es.map λe=>[e])
 |[]=>rfl
 |e::es=>by
  rw[aA];show (el [e]).bind _=_;rw[bH,a3a es];rfl
end Prog
local macro_rules | `(tactic| walk_at "ev")=>`(tactic| simp -implicitDefEqProofs (disch:=first | omega | assumption | decide) only [VS.v_var,VS.v_c,VS.v_1,VS.v_2,VS.c0m,VS.b7c,VS.b5A,VS.c0n,VS.c0o,VS.b8N,VS.b8O,VS.b8P,VS.v_and,VS.v_or,VS.v_not,VS.b8Q,VS.b5B,VS.b8R,VS.C8,VS.a1n,VS.b8S,VS.c0p,VS.b7d,VS.a0i,VS.b5C,VS.b7e,VS.c0h,VS.c0i,VS.c0j,VS.b4f,VS.c0k,VS.c0l,VS.b6L,VS.b6M,VS.b6N,VS.b8I,VS.b8J,VS.b6O,VS.b6P,VS.b8K,VS.b8L,VS.b6Q,VS.b6R,VS.b6S,VS.b6T,VS.b6U,VS.B1,VS.b6V,VS.b6W,VS.b6X,VS.b1z,VS.b6Y,VS.b8M,VS.b4g,VS.b6Z,VS.b7a,VS.a8m,VS.b7b,VS.v_add,VS.v_sub,VS.v_lt,VS.c0q,VS.c0r,VS.c0s,VS.b8T,VS.b8U,VS.b7f,VS.b7g,VS.b8V,VS.b8W,VS.b8X,VS.b8Y,VS.b8Z,VS.b1B,VS.v_mod,VS.v_div,VS.c0H,VS.b9o,VS.b9p,VS.trB,VS.b9q,VS.b7I,VS.b2I,VS.b4Q,VS.b2J,VS.b2K,VS.b4R,VS.b0s,VS.a7I,VS.a7J,VS.a7K,VS.b0t,VS.b0u,VS.a7L,VS.a7M,VS.a6g,VS.a6h,VS.a6i,VS.a7N,VS.a7O,VS.a6j,VS.isList_list,VS.isList_int,VS.a6k,VS.isList_bool,VS.a7P,VS.isList_str,VS.isList_dict,VS.a6l,VS.isTuple_list,VS.isTuple_int,VS.b2L,VS.b2M,VS.a4Z,VS.b9r,VS.b9s,VS.b4S,VS.c0Q,VS.a0X,VS.Q9,VS.b7J,VS.b7K,VS.b9u,VS.b9v,VS.c0R,VS.at0,VS.at1,VS.b9D,VS.b9E,VS.b7M,VS.b4V,VS.b9F,VS.b4W,List.getD_cons_zero,List.getD_cons_succ,mw,jA,jb,gL,bx,cA,bE,iK,Bool.not_false,jV,iM,Bool.false_and,Bool.and_false,VS.c0I,VS.c0J,VS.c0K,VS.c0L,VS.c0M,VS.c0N,VS.c0O,VS.c0P,decide_true,decide_false,ar,aA,cU])
namespace Prog
open PySem L2 VS
def c8(g:List Int→D)(l:List (List Int)):List (D×D):=l.map λp=>(f8 p,g p)
def a5g(p:List Int)(l:List (List Int)):List (List Int):=if p∈l then l else l++[p]
section
variable {g:List Int→D}{l:List (List Int)}{a:List Int}
def a0C:(c8 g l).length=l.length:=ar ..
theorem P7(a:List Int):∀l:List (List Int),v7 (c8 g l) (f8 a)=decide (a∈l)
 |[]=>rfl
 |q::l=>by
  have ih:=P7 a l;unfold v7 c8 at ih ⊢;rw[aA,jT,ih,U3,dG];simp only[gX,bU,az];exact or_congr_left eq_comm
theorem a4h:∀{l:List (List Int)},a∈l→y7 (c8 g l) (f8 a)=el (g a)
 |[],h=>nomatch h
 |q::l,h=>by
  by_cases c:q=a
  ·unfold y7 c8;rw[aA,gW,U3,aH c];subst c;rfl
  ·have ih:=a4h (l:=l) ((az.mp h).resolve_left λz=>c z.symm);unfold y7 c8 at ih ⊢;rw[aA,gW,U3,aR c];exact ih
def b2X:n8 (c8 g l) (f8 a) (g a)=c8 g (a5g a l):=by
 unfold n8 a5g;rw[P7];by_cases c:a∈l
 ·rw[aH c,aB rfl,aB c];unfold c8;rw[bO];refine cD λx _=>?_
  show (if aJ (f8 x) (f8 a)=true then (f8 x,g a) else (f8 x,g x))=(f8 x,g x);rw[U3];by_cases e:x=a
  ·rw[aH e,aB rfl,e]
  ·rw[aR e,aI aQ]
 ·rw[aR c,aI c,aI aQ];unfold c8;rw[aT];rfl
def U4(l:List (List Int)):keysOk true (c8 g l)=true:=by
 unfold keysOk c8;rw[bj];intro p hp;obtain⟨q,_,rfl⟩:=aY.mp hp;exact J9 q
def b0B:(c8 g l).map (·.1)=l.map f8:=by unfold c8;rw[bO];rfl
def a1F:v9 neg true (f8 a) (.dict (c8 g l))=el (.bool (neg !=decide (a∈l))):=by
 show (if m9 true (f8 a)&&keysOk true (c8 g l) then el (df (neg !=v7 (c8 g l) (f8 a))) else p4)=_;rw[J9,U4,P7];rfl
def b5L(h:a∈l):X0 true (.dict (c8 g l)) (f8 a)=el (g a):=by
 show (if m9 true (f8 a)&&keysOk true (c8 g l) then y7 (c8 g l) (f8 a) else p4)=_;rw[J9,U4,a4h h];rfl
def a1T(hv:fv ρ=el (g a))(hk:fk ρ=el (f8 a))(hd:ρ.getD i .none=.dict (c8 g l))(hl:l.length<1000000):B3 i true fk fv ρ=el (.nx (ρ.set i (.dict (c8 g (a5g a l))))):=by
 rw[b2W hv hk hd (J9 a) (by rw[a0C];exact hl),b2X]
end
end Prog
namespace VS
open PySem L2
section
variable {β:Type}[DecidableEq β]{nx:β→Nat→β}{k:Nat}{s:β}{P:β→Prop}{W:a4f β}
def b9O(nx:β→Nat→β)(b:β)(p:List Int):β:=p.foldl (λb a=>nx b a.toNat) b
end
def b2Y(σ:List Int)(v x:Int):x∈dJ σ v↔x∈σ∨x=v:=by
 unfold dJ
 split
 ·rename_i h
  refine⟨.inl,λz=>z.elim id λe=>?_⟩;obtain⟨y,h1,h2⟩:=cZ.mp h;rw[e,←ku.mp h2];exact h1
 ·simp
def b5a{σ:List Int}(v:Int)(h:σ.Nodup):(dJ σ v).Nodup:=by
 unfold dJ
 split
 ·exact h
 ·rename_i c
  refine aZ.mpr ⟨h,by simp,λa ha b hb=>?_⟩;rw[ao.mp hb];rintro rfl;exact c (cZ.mpr ⟨a,ha,fL a⟩)
theorem a3b:∀(l σ:List Int),(∀x,x∈l.foldl dJ σ↔x∈σ∨x∈l)∧(σ.Nodup→(l.foldl dJ σ).Nodup)
 |[],σ=>⟨λx=>by simp,id⟩
 |v::l,σ=>by
  obtain⟨h1,h2⟩:=a3b l (dJ σ v);refine⟨λx=>?_,λh=>h2 (b5a v h)⟩;rw[Gj,h1,b2Y,az]
  constructor
  ·rintro ((a|a)|a)
   ·exact .inl a
   ·exact .inr (.inl a)
   ·exact .inr (.inr a)
  ·rintro (a|a|a)
   ·exact .inl (.inl a)
   ·exact .inl (.inr a)
   ·exact .inr a
def a3c(ns:List Int):(aX ns.length).map (λi=>ns.getD i 0)=ns:=by
 refine List.ext_getElem (by simp) λi h1 h2=>?_
 simp[aM,ak h2]
def b5b:x∈dis ns↔x∈ns:=by
 unfold dis kT;rw[a3c,(a3b ns []).1];simp
def b7U(ns:List Int):(dis ns).Nodup:=by
 unfold dis kT;exact (a3b _ []).2 bA
abbrev Inc(b:List Int):Prop:=b.Pairwise (· < ·)
def a3d(ns:List Int):List Int:=srt (dis ns)
def U5:x∈a3d ns↔x∈ns:=by unfold a3d;rw[(G5 _).mem_iff,b5b]
def U6(ns:List Int):Inc (a3d ns):=by
 have h1:=Q4 (dis ns);have h2:(srt (dis ns)).Nodup:=(G5 _).nodup_iff.mpr (b7U ns);exact (h1.and h2).imp λ{a b} h=>by have:=h.1;have:=h.2;lia
def a3e(ha:Inc a)(hb:Inc b)(h:∀x,x∈a↔x∈b):a=b:=by
 have hp:a.Perm b:=(qd (ha.imp λh=>by lia) (hb.imp λh=>by lia)).mpr h;exact hp.eq_of_pairwise (le:=(· < ·)) (λ_ _ _ _ h h'=>by lia) ha hb
def b0C(hb:Inc b):a3d b=b:=a3e (U6 b) hb λx=>U5
def nxS(m:m4)(b:List Int)(a:Nat):List Int:=a3d (b.map λs=>(stp m s a).2)
def SetK(m:m4)(b:List Int):Prop:=Inc b∧b≠[]∧∀s∈b,0≤s∧s<(m.length:Int)
theorem b2Z[DecidableEq α]:∀{l L:List α},l.Nodup→(∀x∈l,x∈L)→l.length≤L.length
 |[],_,_,_=>bI _
 |a::l,L,hn,h=>by
  rw[bt]at hn;have ha:=h a aj;have:=b2Z (l:=l) (L:=L.erase a) hn.2 λx hx=>(List.mem_erase_of_ne (show x≠a from λe=>hn.1 (e▸hx))).mpr (h x (aq _ hx))
  rw[List.length_erase_of_mem ha]at this;have:=tQ ha;rw[bh];lia
structure Gat (m:m4) (k:Nat) (b:List Int) (o:Option (List Int)):Prop where
 ok:∀q,o=el q→(∀a∈q,0≤a∧a<(k:Int))∧(b9O (nxS m) b q).length=1
 least:∀p,(∀a∈p,0≤a∧a<(k:Int))→(b9O (nxS m) b p).length=1→∃q,o=el q∧(q=p∨bf q p)
def b0D{ns:List Int}(h:a ρ=el (.list (ns.map .int)))(hl:ns.length<64):a0q a ρ=el (.list ((a3d ns).map .int)):=by
 unfold a0q;rw[h];show (intsOf (ns.map .int)).bind _=_;rw[Y8];show (if ns.length<64 then _ else p4)=_;rw[aB hl];rfl
def In(m:m4)(b:List Int):Prop:=Inc b∧∀s∈b,0≤s∧s<(m.length:Int)
def two{b:List Int}(h:1<b.length):∃s t r,b=s::t::r:=by
 match b,h with
 |s::t::r,_=>exact⟨s,t,r,rfl⟩
end VS
namespace Prog
open PySem L2 VS
def toA(m:m4)(a:Nat)(L:List Int)(x:Int):List Int:=(L.filter λs=>decide ((stp m s a).1=x)).map λs=>(stp m s a).2
def prt(m:m4)(a:Nat)(S:List Int)(x:Int):List Int:=a3d (toA m a S x)
def A9(m:m4)(a:Nat)(S:List Int):Bool:=decide (S.map λs=>stp m s a).Nodup
theorem Z4{α β:Type}{f:α→β}:∀{l:List α},(l.map f).Nodup→∀{x y:α},x∈l→y∈l→f x=f y→x=y
 |[],_,_,_,h,_,_=>nomatch h
 |z::l,hn,x,y,hx,hy,e=>by
  rw[aA,bt]at hn;rcases az.mp hx with h1|h1
  ·rcases az.mp hy with h2|h2
   ·rw[h1,h2]
   ·exact absurd (by rw[←h1,e];exact bG h2) hn.1
  ·rcases az.mp hy with h2|h2
   ·exact absurd (by rw[←h2,←e];exact bG h1) hn.1
   ·exact Z4 hn.2 h1 h2 e
theorem a1d{α β:Type}{f:α→β}:∀{l:List α},l.Nodup→(∀x∈l,∀y∈l,f x=f y→x=y)→(l.map f).Nodup
 |[],_,_=>bA
 |z::l,hn,h=>by
  rw[bt]at hn;rw[aA,bt];refine⟨λq=>?_,a1d hn.2 λx hx y hy=>h x (aq _ hx) y (aq _ hy)⟩;obtain⟨y,hy,e⟩:=aY.mp q;exact hn.1 (h z aj y (aq _ hy) e.symm▸hy)
section
variable {m:m4}{k a:Nat}{S L:List Int}{x y:Int}
def a1U:y∈toA m a S x↔∃s∈S,stp m s a=(x,y):=by
 unfold toA;rw[aY]
 constructor
 ·rintro⟨s,hs,rfl⟩;have:=bu.mp hs;exact⟨s,this.1,by rw[←aN this.2]⟩
 ·rintro⟨s,hs,e⟩;exact⟨s,bu.mpr ⟨hs,by rw[e];exact aH rfl⟩,by rw[e]⟩
def a0D:y∈prt m a S x↔∃s∈S,stp m s a=(x,y):=by unfold prt;rw[U5,a1U]
def b5c:Inc (prt m a S x):=U6 _
def a7W(h:(S.map λs=>stp m s a).Nodup):(toA m a S x).Nodup:=by
 have hn:S.Nodup:=wb _ (λa b q e=>q (by rw[e])) h;unfold toA;refine a1d (hn.filter _) λs hs t ht e=>Z4 h (bu.mp hs).1 (bu.mp ht).1 ?_
 have h1:=aN (bu.mp hs).2;have h2:=aN (bu.mp ht).2;exact Prod.ext (by rw[h1,h2]) e
def b0E(h:L.Perm S):A9 m a L=A9 m a S:=by
 unfold A9;rw[dG,bU,bU];exact (h.map _).nodup_iff
theorem SetK.prt(w:WF m k)(h:SetK m S)(ha:a<k){s:Int}(hs:s∈S):SetK m (prt m a S (stp m s a).1):=by
 refine⟨b5c,λe=>?_,λy hy=>?_⟩
 ·have:(stp m s a).2∈Prog.prt m a S (stp m s a).1:=a0D.mpr ⟨s,hs,rfl⟩;rw[e]at this;cases this
 ·obtain⟨t,ht,e⟩:=a0D.mp hy;have:=h.2.2 t ht;have:=w.nx this.1 this.2 (a:=(a:Int)) (by lia) (by lia);rw[e]at this;exact this
def b5d(h:L.Nodup):srt L=a3d L:=by
 refine a3e ?_ (U6 L) λx=>by rw[U5,(G5 L).mem_iff]
 have h2:(srt L).Nodup:=(G5 L).nodup_iff.mpr h;exact ((Q4 L).and h2).imp λ{a b} h=>by have:=h.1;have:=h.2;lia
def a6t(es:List Int):(a2Y es).Pairwise (·≤·):=by
 have h:=U0 (es.map λe=>[e]);rw[a4g,nk]at h;refine h.imp λ{a b} oV=>?_
 by_cases c:b<a
 ·have:C7 [b] [a]=true:=by simp[C7,show ¬ b=a by lia,c]
  exact absurd this (by simpa[leL]using oV)
 ·lia
def a8R(h:L.Nodup):a2Y L=a3d L:=by
 refine a3e ?_ (U6 L) λx=>by rw[U5,(W5 L).mem_iff]
 have h2:(a2Y L).Nodup:=(W5 L).nodup_iff.mpr h;exact ((a6t L).and h2).imp λ{a b} h=>by have:=h.1;have:=h.2;lia
end
def tst(T:List Int→Bool)(m:m4)(a:Nat)(S:List Int):Bool:=A9 m a S&&S.all λs=>T (prt m a S (stp m s a).1)
def tb(m:m4)(k:Nat):Nat→List Int→Bool
 |0,S=>decide (S.length=1)
 |d+1,S=>tb m k d S||(aX k).any λa=>tst (tb m k d) m a S
def lta(m:m4)(k d:Nat)(S:List Int):Option Nat:=(aX k).find? λa=>tst (tb m k d) m a S
section
variable {m:m4}{k d e:Nat}{S:List Int}
def b3a(h:tb m k d S=true):tb m k (d+1) S=true:=by show (tb m k d S||_)=true;rw[h];rfl
def a4i(h:tb m k d S=true)(hl:d≤e):tb m k e S=true:=by
 induction hl with
 |refl=>exact h
 |step _ ih=>exact b3a ih
def a1V:tb m k (d+1) S=(tb m k d S||(lta m k d S).isSome):=by
 show (tb m k d S||_)=_
 congr 1;unfold lta;rw[dG,cZ,Bs]
def b3b{a:Nat}(h:lta m k d S=el a):a<k∧tst (tb m k d) m a S=true:=by
 unfold lta at h;exact⟨b_.mp (qH h),Gk (p:=λa=>tst (tb m k d) m a S) h⟩
theorem a7X(w:WF m k):∀(d:Nat) {S S':List Int},SetK m S→SetK m S'→(∀s∈S',s∈S)→tb m k d S=true→tb m k d S'=true
 |0,S,S',hS,kH,hs,h=>by
  have h1:S.length=1:=aN h;show decide (S'.length=1)=true
  match S,S',h1 with
  |[x],[],_=>exact absurd rfl kH.2.1
  |[x],[y],_=>rfl
  |[x],y::z::r,_=>
   have e1:=ao.mp (hs y aj);have e2:=ao.mp (hs z (aq _ aj));have:=(d_.mp kH.1).1 z aj;lia
 |d+1,S,S',hS,kH,hs,h=>by
  have h':(tb m k d S||(aX k).any λa=>tst (tb m k d) m a S)=true:=h;rcases xg.mp h' with q|q
  ·exact b3a (a7X w d hS kH hs q)
  ·obtain⟨a,ha,q⟩:=cZ.mp q;have hk:=b_.mp ha;unfold tst at q;rw[av]at q;have hf:(S.map λs=>stp m s a).Nodup:=aN q.1;show (tb m k d S'||(aX k).any λa=>tst (tb m k d) m a S')=true;refine xg.mpr (.inr (cZ.mpr ⟨a,ha,?_⟩));unfold tst;rw[av];refine⟨aH (a1d (kH.1.imp λh=>by lia) λx hx y hy e=>Z4 hf (hs x hx) (hs y hy) e),bj.mpr λs oR=>?_⟩;refine a7X w d (SetK.prt w hS hk (hs s oR)) (SetK.prt w kH hk oR) (λy hy=>?_) (bj.mp q.2 s (hs s oR));obtain⟨t,ht,e⟩:=a0D.mp hy;exact a0D.mpr ⟨t,hs t ht,e⟩
def m5(m:m4)(k:Nat)(S:List Int):D:=if S.length=1 then .none else match (aX 200).find? λe=>(lta m k e S).isSome with
 |some e=>match lta m k e S with
  |some a=>.int a
  |none=>.none
 |none=>.none
def a8S{a:Nat}(h1:S.length≠1)(h2:tb m k d S=false)(h3:lta m k d S=el a)(hd:d<200):m5 m k S=.int a:=by
 have hf:((aX 200).find? λe=>(lta m k e S).isSome)=el d:=by
  rw[rD];refine⟨by rw[h3];rfl,b_.mpr hd,λj hj=>?_⟩;cases x:lta m k j S with
  |none=>rfl
  |some b=>
   have:tb m k (j+1) S=true:=by rw[a1V,x,Bool.or_comm];rfl
   have:=a4i this (show j+1≤d by lia);rw[h2]at this;cases this
 unfold m5;rw[aI h1,hf];show (match lta m k d S with|some a=>ay a|none=>.none)=_;rw[h3]
theorem b3c:∀(j:Nat),j≤200→tb m k j S=true→S.length≠1→∃e a,e<j∧a<k∧m5 m k S=.int (a:Nat)∧tst (tb m k e) m a S=true
 |0,_,h,h1=>absurd (aN h) h1
 |j+1,hj,h,h1=>by
  cases x:tb m k j S with
  |true=>
   obtain⟨e,a,q1,q2⟩:=b3c j (by lia) x h1;exact⟨e,a,by lia,q2⟩
  |false=>
   rw[a1V,x,rJ]at h;obtain⟨a,ha⟩:=gQ.mp h;have:=b3b ha;exact⟨j,a,by lia,this.1,a8S h1 x ha (by lia),this.2⟩
end
def lfS(m:m4)(k:Nat)(A:List (List Int))(d:Nat):List (List Int):=A.filter λS=>!tb m k d S
def nwS(m:m4)(k:Nat)(A:List (List Int))(d:Nat):List (List Int):=(lfS m k A d).filter λS=>(lta m k d S).isSome
def kdS(m:m4)(k:Nat)(A:List (List Int)):Nat→List (List Int)
 |0=>A.filter λS=>decide (S.length=1)
 |d+1=>kdS m k A d++nwS m k A d
section
variable {m:m4}{k:Nat}{A:List (List Int)}{d:Nat}{S:List Int}
def W6:S∈lfS m k A d↔S∈A∧tb m k d S=false:=by
 unfold lfS;rw[bu,fF]
def a0E:S∈nwS m k A d↔S∈A∧tb m k d S=false∧(lta m k d S).isSome=true:=by
 unfold nwS;rw[bu,W6,and_assoc]
theorem B9:∀{d:Nat},S∈kdS m k A d↔S∈A∧tb m k d S=true
 |0=>by show S∈A.filter _↔_;rw[bu];rfl
 |d+1=>by
  show S∈kdS m k A d++nwS m k A d↔_;rw[aF,B9 (d:=d),a0E,a1V,gX]
  constructor
  ·rintro (⟨q1,q2⟩|⟨q1,q2,q3⟩)
   ·exact⟨q1,.inl q2⟩
   ·exact⟨q1,.inr q3⟩
  ·rintro⟨q1,q2⟩;cases x:tb m k d S with
   |true=>exact .inl ⟨q1,rfl⟩
   |false=>exact .inr ⟨q1,rfl,q2.resolve_left (by rw[x];decide)⟩
theorem b3d(hA:A.Nodup):∀d,(kdS m k A d).Nodup
 |0=>hA.filter _
 |d+1=>by
  show (kdS m k A d++nwS m k A d).Nodup;rw[aZ];refine⟨b3d hA d,(hA.filter _).filter _,λx hx y hy e=>?_⟩;subst e;have h1:=(B9.mp hx).2;rw[(a0E.mp hy).2.1]at h1;cases h1
def a6u:(lfS m k A d).filter (λS=>!decide (S∈nwS m k A d))=lfS m k A (d+1):=by
 have e:∀S∈lfS m k A d,(!decide (S∈nwS m k A d))=!tb m k (d+1) S:=by
  intro S hS;have h:=W6.mp hS
  congr 1;rw[dG,bU,a0E,a1V,h.2,rJ];exact⟨λq=>q.2.2,λq=>⟨h.1,rfl,q⟩⟩
 rw[Bt e];unfold lfS;rw[List.filter_filter];refine Bt λS _=>?_
 cases x:tb m k d S with
 |true=>rw[b3a x];rfl
 |false=>simp
def b3e(h:nwS m k A d≠[]):(lfS m k A (d+1)).length<(lfS m k A d).length:=by
 rw[←a6u];obtain⟨x,hx⟩:=qI _ h;exact List.length_filter_lt_length_iff_exists.mpr ⟨x,(bu.mp hx).1,by rw[aH hx];decide⟩
def b5e(h:nwS m k A d=[])(hS:S∈A){a:Nat}(ha:a<k)(ht:tst (tb m k d) m a S=true):tb m k d S=true:=by
 cases x:tb m k d S with
 |true=>rfl
 |false=>
  have:S∈nwS m k A d:=a0E.mpr ⟨hS,x,by unfold lta;rw[Bs];exact⟨a,b_.mpr ha,ht⟩⟩;rw[h]at this;cases this
end
def p7(g:Int→D)(ks:List Int):List (D×D):=ks.map λx=>(ay x,g x)
section
variable {g h:Int→D}{ks:List Int}{x:Int}
def a8T:p7 g ks=kvD g (ks.map λx=>(x,x)):=by unfold p7 kvD;rw[bO];rfl
def a4j:(p7 g ks).map (·.1)=ks.map ay:=by unfold p7;rw[bO];rfl
def a6v:(p7 g ks).length=ks.length:=ar ..
def a1e:v7 (p7 g ks) (.int x)=decide (x∈ks):=by rw[a8T,a1R,bO];congr 2;exact gD ks
def a1f:x∈ks→y7 (p7 g ks) (.int x)=el (g x):=by
 induction ks with
 |nil=>intro h;cases h
 |cons y ks ih=>
  intro hx;unfold y7 p7 at ih ⊢;rw[aA,gW];show Option.map _ (match aJ (.int y) (.int x) with|true=>_|false=>_)=_;rw[a1Q];by_cases c:y=x
  ·rw[aH c,c];rfl
  ·rw[aR c];exact ih ((az.mp hx).resolve_left λz=>c z.symm)
def a1G:keysOk false (p7 g ks)=true:=by
 unfold keysOk p7;rw[bj];intro p hp;obtain⟨q,_,rfl⟩:=aY.mp hp;exact dKey_i q
def b0F(hx:x∉ks→g x=h x):n6 (p7 g ks) (.int x) (h x)=p7 g (P6 x ks):=by
 unfold n6 P6;rw[a1e];by_cases c:x∈ks
 ·rw[aH c,aB rfl,aB c]
 ·rw[aR c,aI aQ,aI c,←hx c];unfold p7;rw[aT];rfl
def a6w(hx:x∈ks)(hh:∀y,y≠x→h y=g y):n8 (p7 g ks) (.int x) (h x)=p7 h ks:=by
 unfold n8;rw[a1e,aH hx,aB rfl];unfold p7;rw[bO];refine cD λy _=>?_
 show (if aJ (.int y) (.int x)=true then (ay y,h x) else (ay y,g y))=(ay y,h y);rw[a1Q];by_cases c:y=x
 ·rw[aH c,aB rfl,c]
 ·rw[aR c,aI aQ,hh y c]
def b3f(hx:x∈ks):X0 false (.dict (p7 g ks)) (.int x)=el (g x):=by
 show (if m9 false (.int x)&&keysOk false (p7 g ks) then y7 (p7 g ks) (.int x) else p4)=_;rw[dKey_i,a1G,a1f hx];rfl
def a3f{a:EvE}{ρ:List D}{kvs:List (D×D)}{es:List Int}(ha:a ρ=el (.dict kvs))(he:kvs.map (·.1)=es.map ay)(hl:es.length<60):H9 false a ρ=el (iD (a2Y es)):=by
 unfold H9;rw[ha,bH];show (el (kvs.map (·.1))).bind _=_;rw[bH,he];unfold a2y;rw[a3a,bH,aB (by unfold okK;rw[ar,aH (by lia)];rfl),a4g,bO];rfl
def b5f(hn:ks.Nodup):(P6 x ks).Nodup:=by
 unfold P6;by_cases c:x∈ks
 ·rw[aB c];exact hn
 ·rw[aI c,aZ];exact⟨hn,by simp,λy hy z hz e=>c (by rw[ao]at hz;rw[←hz,←e];exact hy)⟩
end
def ddE(l:List Int):List Int:=l.foldl (λacc x=>P6 x acc) []
def a0F(l:List Int)(x:Int):ddE (l++[x])=P6 x (ddE l):=by unfold ddE;rw[List.foldl_append];rfl
def W7{y:Int}(l:List Int):y∈ddE l↔y∈l:=by
 induction l using snoc_ind with
 |h0=>exact⟨λh=>(nomatch h),λh=>(nomatch h)⟩
 |h1 l x ih=>rw[a0F,a2X,ih,aF,ao]
def b7V(l:List Int):(ddE l).Nodup:=by
 induction l using snoc_ind with
 |h0=>exact bA
 |h1 l x ih=>rw[a0F];exact b5f ih
def a8U(l:List Int):(ddE l).length≤l.length:=b2Z (b7V l) λx hx=>(W7 l).mp hx
abbrev BG:=List (Int×Int)
def gp(m:m4)(a:Nat)(B:BG)(x:Int):BG:=(B.filter λp=>decide ((stp m p.1 a).1=x)).map λp=>((stp m p.1 a).2,p.2)
def anL(m:m4)(a:Nat)(B:BG):List Int:=ddE (B.map λp=>(stp m p.1 a).1)
def bgD(B:BG):D:=.dict (kvD ay B)
def ptD(m:m4)(a:Nat)(B:BG):D:=.dict (p7 (λx=>bgD (gp m a B x)) (anL m a B))
section
variable {m:m4}{a:Nat}{B:BG}{x y:Int}
def a1W:(gp m a B x).map (·.1)=toA m a (B.map (·.1)) x:=by
 unfold gp toA;rw[bO,List.filter_map,bO];rfl
def b7W:y∈(gp m a B x).map (·.1)↔(x,y)∈B.map λp=>stp m p.1 a:=by
 rw[a1W,a1U,aY]
 constructor
 ·rintro⟨s,hs,e⟩;obtain⟨p,hp,rfl⟩:=aY.mp hs;exact⟨p,hp,e⟩
 ·rintro⟨p,hp,e⟩;exact⟨p.1,bG hp,e⟩
def a8V(p:Int×Int):gp m a (B++[p]) x=if (stp m p.1 a).1=x then gp m a B x++[((stp m p.1 a).2,p.2)] else gp m a B x:=by
 unfold gp;rw[e_,aT];by_cases c:(stp m p.1 a).1=x
 ·rw[aB c,eB (by exact aH c)];rfl
 ·rw[aI c,eD (by rw[aR c];exact aQ)];simp
def b5g(h:x∉anL m a B):gp m a B x=[]:=by
 unfold gp;rw[fU.mpr λp hp c=>h ((W7 _).mpr (aY.mpr ⟨p,hp,aN c⟩))];rfl
def b3g(p:Int×Int):anL m a (B++[p])=P6 (stp m p.1 a).1 (anL m a B):=by unfold anL;rw[aT];exact a0F _ _
def b5M:(gp m a B x).length≤B.length:=by unfold gp;rw[ar];exact dB _ _
def a5h:(anL m a B).length≤B.length:=by have:=a8U (B.map λp=>(stp m p.1 a).1);rw[ar]at this;exact this
def a5i:x∈anL m a B↔∃p∈B,(stp m p.1 a).1=x:=by unfold anL;rw[W7,aY]
def b5h{i:Nat}{fk fj fr fv:EvE}{ρ:List D}{p:Int×Int}(hd:ρ.getD i .none=ptD m a B)(hk:fk ρ=el (.int (stp m p.1 a).1))(hj:∀x,fj (ρ.set i x)=el (.int (stp m p.1 a).2))(hr:∀x,fr (ρ.set i x)=el .none)(hv:∀x,fv (ρ.set i x)=el (.int p.2))(hl:B.length<1000) :
  a2K i false false fk fj fr fv ρ=if stp m p.1 a∈B.map (λp=>stp m p.1 a) then el (.rt .none) else el (.nx (ρ.set i (ptD m a (B++[p])))):=by
 have hg:=b5M (m:=m) (a:=a) (B:=B) (x:=(stp m p.1 a).1);have ha:=a5h (m:=m) (a:=a) (B:=B);have e1:n6 (p7 (λx=>bgD (gp m a B x)) (anL m a B)) (.int (stp m p.1 a).1) (.dict [])=p7 (λx=>bgD (gp m a B x)) (P6 (stp m p.1 a).1 (anL m a B)):=
  b0F (h:=λ_=>bgD []) λq=>by show bgD (gp m a B _)=_;rw[b5g q]
 have jW:(stp m p.1 a).1∈P6 (stp m p.1 a).1 (anL m a B):=a2X.mpr (.inr rfl);unfold a2K;rw[hk,bH,hd];unfold ptD;show (if m9 false (.int (stp m p.1 a).1)&&decide ((p7 (λx=>bgD (gp m a B x)) (anL m a B)).length<1000000) then _ else p4)=_;rw[dKey_i,a6v,aH (by lia),jV,aB rfl,hj,bH,e1,a1f jW];show (if m9 false (.int (stp m p.1 a).2)&&decide ((kvD ay (gp m a B (stp m p.1 a).1)).length<1000000) then _ else p4)=_;rw[dKey_i,a8P,aH (by lia),jV,aB rfl,a1R];have hm:((stp m p.1 a).2∈(gp m a B (stp m p.1 a).1).map (·.1))↔stp m p.1 a∈B.map (λp=>stp m p.1 a):=b7W;by_cases c:stp m p.1 a∈B.map (λp=>stp m p.1 a)
 ·rw[aH (hm.mpr c),aB rfl,aB c,hr];rfl
 ·have hn:=λz=>c (hm.mp z)
  rw[aR hn,aI aQ,aI c,hv,bH,b2T (enc:=ay) hn,List.set_set];have e2:n8 (p7 (λx=>bgD (gp m a B x)) (P6 (stp m p.1 a).1 (anL m a B))) (.int (stp m p.1 a).1) (bgD (gp m a (B++[p]) (stp m p.1 a).1))=p7 (λx=>bgD (gp m a (B++[p]) x)) (P6 (stp m p.1 a).1 (anL m a B)):=a6w (h:=λx=>bgD (gp m a (B++[p]) x)) jW λy hy=>by
   show bgD (gp m a (B++[p]) y)=bgD (gp m a B y);rw[a8V,aI λz=>hy z.symm]
  rw[a8V,aB rfl]at e2;rw[b3g,←e2];rfl
end
def E8(S:List Int):imm (f8 S)=true:=by unfold f8;simp only[imm];exact w8 S
def a7Y{m:m4}{k:Nat}(w:WF m k):P4 [.list (m.map rwD)]=el (.int k):=by
 unfold P4;rw[O2 (by simp[VS.argsOk])];unfold a4a;have hp:=w.pos;walk_at "ev";rw[b4U (by lia) (by lia)];walk_at "ev";rw[w.row (by lia) (by lia)]
def b9P{B:BG}{f:EvE}{ρ:List D}(h:f ρ=el (bgD B)):iIt f ρ=el (B.map stD):=by
 unfold iIt;rw[h,bH];show (if keysOk false (kvD ay B) then el ((kvD ay B).map a2H) else p4)=_;rw[aB (show keysOk false (kvD ay B)=true from a8Q)];unfold kvD;rw[bO];rfl
def a6x{m:m4}{a:Nat}{B:BG}{p:Int×Int}:A9 m a ((B++[p]).map (·.1))=(A9 m a (B.map (·.1))&&!decide (stp m p.1 a∈B.map λp=>stp m p.1 a)):=by
 unfold A9;rw[dG,av,bU,bU,bO,bO,aT,aZ,fF,hX]
 constructor
 ·rintro⟨h1,_,h3⟩;exact⟨h1,λz=>h3 _ z _ (ao.mpr rfl) rfl⟩
 ·rintro⟨h1,h2⟩;exact⟨h1,by simp,λx hx y hy e=>h2 (by have:=ao.mp hy;subst this;subst e;exact hx)⟩
def b3h{m:m4}{a:Nat}{B C:BG}(h:A9 m a ((B++C).map (·.1))=true):A9 m a (B.map (·.1))=true:=by
 unfold A9 at h ⊢;rw[bU]at h ⊢;rw[aT,aT]at h;exact (aZ.mp h).1
section
variable {m:m4}{k:Nat}(w:WF m k){a:Nat}(ha:a<k)
include w ha
theorem a0G{B:BG}(hB:∀p∈B,0≤p.1∧p.1<(m.length:Int))(hl:B.length<1000):w9 [.list (m.map rwD),bgD B,.int a]=el (if A9 m a (B.map (·.1)) then ptD m a B else .none):=by
 unfold w9;rw[O2 (by simp[VS.argsOk,imm])];unfold a1D;walk_at "ev";rw[a0X (b9P (B:=B) (by walk_at "ev")) (r9 _ (λ_=>a7Q) _)];walk_at "ev";rcases W4 (enc:=stD) (set:=a9r 4 5) (xs:=B) (g:=(i4 (j8 6 (e2 D5 (e2 dIx (b7 0) (b7 4)) (b7 2))) (i4 (a2K 3 false false (e2 D5 (b7 6) (eC (.int 0))) (e2 D5 (b7 6) (eC (.int 1))) (eC .none) (b7 5)) q8))) (ρ:=[.list (m.map rwD),bgD B,.int a,.dict [],.none,.none,.none,.none])
   (λpre ρ=>A9 m a (pre.map (·.1))=true∧∃x y z,ρ=[.list (m.map rwD),bgD B,.int a,ptD m a pre,x,y,z,.none]) (λr=>r=.none∧A9 m a (B.map (·.1))=false) ⟨rfl,_,_,_,rfl⟩ (by
    rintro pre p post e ρ ⟨hf,x,y,z,rfl⟩;have hp:=hB p (by rw[e];simp);have hr:=w.row hp.1 hp.2;have fJ:pre.length<1000:=by rw[e,bg]at hl;lia
    refine⟨[.list (m.map rwD),bgD B,.int a,ptD m a pre,.int p.1,.int p.2,z,.none],rfl,?_⟩;have hc:j8 6 (e2 D5 (e2 dIx (b7 0) (b7 4)) (b7 2)) [.list (m.map rwD),bgD B,.int a,ptD m a pre,.int p.1,.int p.2,z,.none]=el (.nx [.list (m.map rwD),bgD B,.int a,ptD m a pre,.int p.1,.int p.2,stD (stp m p.1 a),.none]):=by
     walk_at "ev";rw[b4U hp.1 hp.2];walk_at "ev";rw[b9C (by lia) (by lia)];walk_at "ev";rfl
    have hs:=b5h (m:=m) (a:=a) (B:=pre) (p:=p) (i:=3) (fk:=e2 D5 (b7 6) (eC (.int 0))) (fj:=e2 D5 (b7 6) (eC (.int 1))) (fr:=eC .none) (fv:=b7 5) (ρ:=[.list (m.map rwD),bgD B,.int a,ptD m a pre,.int p.1,.int p.2,stD (stp m p.1 a),.none]) rfl rfl (λ_=>rfl) (λ_=>rfl) (λ_=>rfl) fJ;rw[C8,hc,B1,C8,hs];by_cases c:stp m p.1 a∈pre.map λp=>stp m p.1 a
    ·rw[aB c];refine .inr ⟨_,rfl,rfl,?_⟩;cases x:A9 m a (B.map (·.1)) with
     |false=>rfl
     |true=>
      have e2:B=(pre++[p])++post:=by rw[e];simp
      rw[e2]at x;have:=b3h x;rw[a6x,aH c,hf]at this;cases this
    ·rw[aI c];refine .inl ⟨_,rfl,?_,_,_,_,rfl⟩;rw[a6x,aR c,hf];rfl) with⟨ρ',g1,hf,x,y,z,rfl⟩|⟨r,g1,rfl,hf⟩
 ·rw[g1];walk_at "ev";rw[aB hf]
 ·rw[g1];walk_at "ev";rw[aI (by rw[hf];exact aQ)]
end
def bhD(m:m4)(a:Nat)(S:List Int):D:=if A9 m a S then .list ((anL m a (S.zip S)).map λx=>f8 (prt m a S x)) else .none
def R6(S:List Int):(S.zip S).map (·.1)=S:=by rw[Fh (aD _)]
def a3g{l:Bool}{f:EvE}{ρ:List D}{S:List Int}(h:f ρ=el (if l then iD S else f8 S))(hn:S.Nodup)(hl:S.length<1000):G8 l f f ρ=el (bgD (S.zip S)):=by
 have hq:b4N l (if l then iD S else f8 S)=el S:=by cases l<;>exact Y8 S
 unfold G8;rw[h,bH,bH,hq,bH,bH,aB]
 ·rfl
 ·unfold a8I;rw[aH rfl,aH hn,aH (by lia)];rfl
def b9Q{g:Int→D}{ks:List Int}{f:EvE}{ρ:List D}(h:f ρ=el (.dict (p7 g ks))):iVa f ρ=el (ks.map g):=by
 unfold iVa;rw[h,bH];show (if keysOk false (p7 g ks) then el ((p7 g ks).map (·.2)) else p4)=_;rw[aB a1G];unfold p7;rw[bO];rfl
section
variable {m:m4}{k:Nat}(w:WF m k)
include w
theorem a3h{S:List Int}(hS:SetK m S)(hl:S.length≤30):z0 [.list (m.map rwD),f8 S]=el (.list ((aX k).map λ(a:Nat)=>bhD m a S)):=by
 have yw:=w.k5;have qX:=w.pos;have jl:S.Nodup:=hS.1.imp λh=>by lia
 unfold z0;rw[O2 (by simp[VS.argsOk,E8])];unfold X8;walk_at "ev";rw[show iR (eCl P4 (b8 (b7 0) g8)) [.list (m.map rwD),f8 S,.list [],.none,.none]=el (F6 0 k) by
  rw[a6Z (n:=k) (by walk_at "ev";exact a7Y w) (by lia) (by lia),bV]]
 walk_at "ev";refine a0t (λρ=>∃x y,ρ=[.list (m.map rwD),f8 S,.list ((aX k).map λ(a:Nat)=>bhD m a S),x,y]) ?_ ?_
 ·obtain⟨ρ',g1,x,y,rfl⟩:=L4 (n:=k) (set:=x9 3) (g:=(i4 (j8 4 (eCl w9 (b8 (b7 0) (b8 (G8 false (b7 1) (b7 1)) (b8 (b7 3) g8))))) (D6 2 (.l .f) q9 (eIf (tB (e2 (N1 false) (b7 4) (eC .none))) (eC .none) (l0 (iVa (b7 4)) [] pt1 tT (w6 (H9 false (b7 0)))))))) (ρ:=[.list (m.map rwD),f8 S,.list [],.none,.none])
   (λj ρ=>∃x y,ρ=[.list (m.map rwD),f8 S,.list ((aX j).map λ(a:Nat)=>bhD m a S),x,y]) ⟨_,_,rfl⟩ (by
    rintro a ha ρ ⟨x,y,rfl⟩;have hp:=a0G w ha (B:=S.zip S) (λp hp=>hS.2.2 p.1 (by have:=bG (f:=Prod.fst) hp;rw[R6]at this;exact this)) (by rw[dS];lia);rw[R6]at hp;have hc:j8 4 (eCl w9 (b8 (b7 0) (b8 (G8 false (b7 1) (b7 1)) (b8 (b7 3) g8)))) [.list (m.map rwD),f8 S,.list ((aX a).map λ(a:Nat)=>bhD m a S),.int a,y]=el (.nx [.list (m.map rwD),f8 S,.list ((aX a).map λ(a:Nat)=>bhD m a S),.int a,if A9 m a S then ptD m a (S.zip S) else .none]):=by
     walk_at "ev";rw[a3g (l:=false) (S:=S) (by rfl) jl (by lia)];walk_at "ev";rw[hp];rfl
    refine⟨_,[.list (m.map rwD),f8 S,.list ((aX (a+1)).map λ(a:Nat)=>bhD m a S),.int a,if A9 m a S then ptD m a (S.zip S) else .none],rfl,?_,_,_,rfl⟩;show (i4 (j8 4 (eCl w9 (b8 (b7 0) (b8 (G8 false (b7 1) (b7 1)) (b8 (b7 3) g8))))) (D6 2 (.l .f) q9 (eIf (tB (e2 (N1 false) (b7 4) (eC .none))) (eC .none) (l0 (iVa (b7 4)) [] pt1 tT (w6 (H9 false (b7 0))))))) [.list (m.map rwD),f8 S,.list ((aX a).map λ(a:Nat)=>bhD m a S),.int a,y]=_;rw[C8,hc,B1];have hv:eIf (tB (e2 (N1 false) (b7 4) (eC .none))) (eC .none) (l0 (iVa (b7 4)) [] pt1 tT (w6 (H9 false (b7 0)))) [.list (m.map rwD),f8 S,.list ((aX a).map λ(a:Nat)=>bhD m a S),.int a,if A9 m a S then ptD m a (S.zip S) else .none]=el (bhD m a S):=by
     cases hf:A9 m a S with
     |false=>
      unfold bhD;rw[hf];rfl
     |true=>
      have oH:(S.map λs=>stp m s a).Nodup:=aN hf;rw[b8Q];show b4e (lT (el (.bool false))) _ _ _=_;have tG:=a5h (m:=m) (a:=a) (B:=S.zip S);rw[dS]at tG;show (l0 (iVa (b7 4)) [] pt1 tT (w6 (H9 false (b7 0)))) [.list (m.map rwD),f8 S,.list ((aX a).map λ(a:Nat)=>bhD m a S),.int a,ptD m a (S.zip S)]=_;rw[a5f (enc:=λx=>bgD (gp m a (S.zip S) x)) (xs:=anL m a (S.zip S)) (λx=>f8 (prt m a S x)) (by exact b9Q rfl) (by lia) (λx _=>⟨_,rfl,?_⟩)]
      ·unfold bhD;rw[hf];rfl
      ·have hg:=b5M (m:=m) (a:=a) (B:=S.zip S) (x:=x);rw[dS]at hg;rw[a0Y];rw[a3f (kvs:=kvD ay (gp m a (S.zip S) x)) (es:=(gp m a (S.zip S) x).map (·.1)) rfl b2U (by rw[ar];lia),a1W,R6,a8R (a7W oH)];exact O9
    rw[b1B,hv];show a9v 2 (.list _) (el (bhD m a S)) _=_;rw[Q9 (by rw[ar,gc];lia),List.range_succ,aT];rfl)
  exact⟨_,g1,_,_,rfl⟩
 ·rintro ρ ⟨x,y,rfl⟩;walk_at "ev"
end
def optN:Option Nat→D
 |none=>.none
 |some a=>.int a
def tsl(m:m4)(l:List (List Int))(a:Nat)(S:List Int):Bool:=A9 m a S&&(anL m a (S.zip S)).all λx=>decide (prt m a S x∈l)
theorem a1H:∀(l:List D) (j:Nat),L1 l j=(aX l.length).map λ(s:Nat)=>jS [.int ((j+s:Nat):Int),l.getD s .none]
 |[],j=>rfl
 |d::l,j=>by
  show jS [.int j,d]::L1 l (j+1)=_;rw[a1H l,bh,List.range_succ_eq_map,aA,bO]
  congr 1;refine cD λs _=>?_
  show jS [.int ((j+1+s:Nat):Int),_]=jS [.int ((j+(s+1):Nat):Int),_];rw[show j+1+s=j+(s+1) by lia];rfl
def a6y(f:Nat→D)(k:Nat):L1 ((aX k).map f) 0=(aX k).map λ(a:Nat)=>jS [.int (a:Int),f a]:=by
 rw[a1H,ar,gc];refine cD λa ha=>?_
 rw[Nat.zero_add,aM,aU,lV (b_.mp ha)];rfl
def a1g{m:m4}{k:Nat}{S:List Int}{g:List Int→D}{l:List (List Int)}(hk:k≤5)(hl:S.length≤30):p6 [.list ((aX k).map λ(a:Nat)=>bhD m a S),.dict (c8 g l)]=el (optN ((aX k).find? λa=>tsl m l a S)):=by
 unfold p6;rw[O2 (by simp[VS.argsOk])];unfold R7;walk_at "ev";rw[c1f (ds:=(aX k).map λ(a:Nat)=>bhD m a S) (by walk_at "ev"),a6y];walk_at "ev";rcases W4 (enc:=λ(a:Nat)=>jS [.int (a:Int),bhD m a S]) (set:=a9r 2 3) (xs:=aX k) (g:=(sIf (tAn (tB (e2 (N1 true) (b7 3) (eC .none))) (tV (eCl a9l (b8 (l0 (iL (b7 3)) [1] pt1 tT (e2 (v9 false true) (b7 0) (b7 1))) g8)))) (n5 (eIm (b7 2))) q8)) (ρ:=[.list ((aX k).map λ(a:Nat)=>bhD m a S),.dict (c8 g l),.none,.none])
   (λpre ρ=>(∀b∈pre,tsl m l b S=false)∧∃x y,ρ=[.list ((aX k).map λ(a:Nat)=>bhD m a S),.dict (c8 g l),x,y]) (λr=>r=optN ((aX k).find? λa=>tsl m l a S)) ⟨λb hb=>(nomatch hb),_,_,rfl⟩ (by
    rintro pre a post e ρ ⟨hb,x,y,rfl⟩;obtain⟨r1,r2,r3⟩:=a1B e;refine⟨[.list ((aX k).map λ(a:Nat)=>bhD m a S),.dict (c8 g l),.int a,bhD m a S],rfl,?_⟩;have ht:(tAn (tB (e2 (N1 true) (b7 3) (eC .none))) (tV (eCl a9l (b8 (l0 (iL (b7 3)) [1] pt1 tT (e2 (v9 false true) (b7 0) (b7 1))) g8)))) [.list ((aX k).map λ(a:Nat)=>bhD m a S),.dict (c8 g l),.int a,bhD m a S]=el (tsl m l a S):=by
     unfold tsl;cases hf:A9 m a S with
     |false=>
      have:bhD m a S=.none:=by unfold bhD;rw[hf];rfl
      rw[this];rfl
     |true=>
      have DY:bhD m a S=.list ((anL m a (S.zip S)).map λx=>f8 (prt m a S x)):=by unfold bhD;rw[hf];rfl
      have tG:=a5h (m:=m) (a:=a) (B:=S.zip S);rw[dS]at tG;rw[DY];walk_at "ev";rw[a5f (enc:=λx=>f8 (prt m a S x)) (xs:=anL m a (S.zip S)) (λx=>df ((λx=>decide (prt m a S x∈l)) x)) (by walk_at "ev") (by lia) (λx _=>⟨_,rfl,?_⟩)]
      ·walk_at "ev";rw[v_all (λx=>decide (prt m a S x∈l))];rfl
      ·walk_at "ev";rw[a1F];simp
    rw[a0i,ht];cases x:tsl m l a S with
    |false=>exact .inl ⟨_,rfl,λb kn=>(aF.mp kn).elim (hb b) λq=>by rw[ao.mp q];exact x,_,_,rfl⟩
    |true=>
     refine .inr ⟨.int a,rfl,?_⟩;have:((aX k).find? λa=>tsl m l a S)=el a:=by
      rw[rD];refine⟨x,b_.mpr r2,λj hj=>?_⟩;rw[hb j (by rw[r3];exact b_.mpr hj)];rfl
     rw[this];rfl) with⟨ρ',g1,hb,x,y,rfl⟩|⟨r,g1,rfl⟩
 ·rw[g1];walk_at "ev";rw[fT.mpr λa ha=>by rw[hb a ha];exact aQ];rfl
 ·rw[g1];walk_at "ev"
def b7X{neg:Bool}{g:List Int→D}{l:List (List Int)}{a:List Int}:dIn neg true (f8 a) (.dict (c8 g l))=el (.bool (neg !=decide (a∈l))):=by
 show (if m9 true (f8 a) then el (df (neg !=v7 (c8 g l) (f8 a))) else p4)=_;rw[J9,P7];rfl
def b7Y{a:EvE}{ρ:List D}{g:List Int→D}{l:List (List Int)}(h:a ρ=el (.dict (c8 g l))):tVD a ρ=el !l.isEmpty:=by
 unfold tVD;rw[h];cases l<;>rfl
def b7Z{i j:Nat}{ρ:List D}{g:List Int→D}{l l':List (List Int)}(hi:ρ.getD i .none=.dict (c8 g l))(hj:ρ.getD j .none=.dict (c8 g l'))(gj:l≠[])(hd:∀p∈l',p∉l)(hl:l.length+l'.length≤1000000):a9L i j ρ=el (.nx (ρ.set i (.dict (c8 g (l++l'))))):=by
 unfold a9L;rw[hi,hj];show (if !(c8 g l).isEmpty&&((c8 g l').all λp=>!v7 (c8 g l) p.1)&&decide ((c8 g l).length+(c8 g l').length≤1000000) then _ else p4)=_;rw[aB]
 ·unfold c8;rw[aT]
 ·rw[a0C,a0C,aH hl,iM,av]
  constructor
  ·cases l with
   |nil=>exact absurd rfl gj
   |cons _ _=>rfl
  ·rw[bj];intro p hp;unfold c8 at hp;obtain⟨q,hq,rfl⟩:=aY.mp hp;rw[P7,aR (hd q hq)];rfl
def a0H{l L:List (List Int)}{f:List Int→Option Nat}(hg:∀S∈L,gm [f8 S,.dict (c8 g l)]=el (optN (f S)))(hv:∀S∈L,∀a,f S=el a→g S=.int a)(hn:L.Nodup)(hl:L.length≤1000):o5 gm [.dict (c8 g l),.list (L.map f8)]=el (.dict (c8 g (L.filter λS=>(f S).isSome))):=by
 unfold o5;rw[b5J (by simp[VS.argsOk])];show a2n (F7 gm [.dict (c8 g l),.list (L.map f8),.none,.none,.none,.none])=_;unfold F7;walk_at "ev";rw[a0X (ds:=L.map f8) (by walk_at "ev") (r9 _ E8 _)];walk_at "ev";refine a0t (λρ=>∃x y,ρ=[.dict (c8 g l),.list (L.map f8),.none,.dict (c8 g (L.filter λS=>(f S).isSome)),x,y]) ?_ ?_
 ·obtain⟨ρ',g1,x,y,rfl⟩:=P0 (enc:=f8) (set:=x9 4) (xs:=L) (g:=(i4 (j8 5 (eCl gm (b8 (b7 4) (b8 (b7 0) g8)))) (sIf (tB (e2 (N1 true) (b7 5) (eC .none))) (B3 3 true (b7 4) (b7 5)) q8))) (ρ:=[.dict (c8 g l),.list (L.map f8),.none,.dict [],.none,.none])
   (λpre ρ=>∃x y,ρ=[.dict (c8 g l),.list (L.map f8),.none,.dict (c8 g (pre.filter λS=>(f S).isSome)),x,y]) ⟨_,_,rfl⟩ (by
    rintro pre S post e ρ ⟨x,y,rfl⟩;have hS:S∈L:=by rw[e];simp
    have hp:=hg S hS;have lh:S∉pre:=by
     rw[e]at hn;have:=aZ.mp hn;exact λz=>this.2.2 S z S aj rfl
    have hlen:(pre.filter λS=>(f S).isSome).length<1000000:=by
     have h1:=dB (λS=>(f S).isSome) pre;have h2:pre.length≤L.length:=by rw[e];simp
     lia
    have hc:j8 5 (eCl gm (b8 (b7 4) (b8 (b7 0) g8))) [.dict (c8 g l),.list (L.map f8),.none,.dict (c8 g (pre.filter λS=>(f S).isSome)),f8 S,y]=el (.nx [.dict (c8 g l),.list (L.map f8),.none,.dict (c8 g (pre.filter λS=>(f S).isSome)),f8 S,optN (f S)]):=by
     walk_at "ev";rw[hp];walk_at "ev"
    refine⟨_,[.dict (c8 g l),.list (L.map f8),.none,.dict (c8 g ((pre++[S]).filter λS=>(f S).isSome)),f8 S,optN (f S)],rfl,?_,_,_,rfl⟩;show (i4 (j8 5 (eCl gm (b8 (b7 4) (b8 (b7 0) g8)))) (sIf (tB (e2 (N1 true) (b7 5) (eC .none))) (B3 3 true (b7 4) (b7 5)) q8)) [.dict (c8 g l),.list (L.map f8),.none,.dict (c8 g (pre.filter λS=>(f S).isSome)),f8 S,y]=_;rw[C8,hc,B1,e_];cases x:f S with
    |none=>
     rw[eD (by rw[x];exact aQ),Gm,bE];rfl
    |some a=>
     rw[eB (by rw[x];rfl),Gm];show B3 3 true (b7 4) (b7 5) [.dict (c8 g l),.list (L.map f8),.none,.dict (c8 g (pre.filter λS=>(f S).isSome)),f8 S,.int a]=_;rw[a1T (g:=g) (a:=S) (l:=pre.filter λS=>(f S).isSome) (by rw[hv S hS a x];rfl) rfl rfl hlen];unfold a5g;rw[aI λz=>lh (bu.mp z).1];rfl)
  exact⟨_,g1,_,_,rfl⟩
 ·rintro ρ ⟨x,y,rfl⟩;walk_at "ev"
section
variable {m:m4}{k:Nat}{A:List (List Int)}(hA:A.Nodup)(si:A.length≤150)(h1:kdS m k A 0≠[])(hok:E4 (c8 (m5 m k) (kdS m k A 0))=true)
include hA si h1 hok
theorem Z5(DB:∀d,d≤150→∀S∈lfS m k A d,gm [f8 S,.dict (c8 (m5 m k) (kdS m k A d))]=el (optN (lta m k d S))):∃d,o9 gm [.dict (c8 (m5 m k) (kdS m k A 0)),.list ((lfS m k A 0).map f8)]=el (.dict (c8 (m5 m k) (kdS m k A d)))∧nwS m k A d=[]∧d≤(lfS m k A 0).length:=by
 have wB:∀d,(lfS m k A d).length≤150:=λd=>cw (dB _ _) si
 have Dv:∀d,(kdS m k A d).length≤150:=λd=>cw (b2Z (b3d hA d) λx hx=>(B9.mp hx).1) si
 have round:∀d,d≤150→o5 gm [.dict (c8 (m5 m k) (kdS m k A d)),.list ((lfS m k A d).map f8)]=el (.dict (c8 (m5 m k) (nwS m k A d))):=λd hd=>a0H (f:=lta m k d) (DB d hd) (λS hS a ha=>by
  have kH:=W6.mp hS;exact a8S (λz=>by have:=a4i (show tb m k 0 S=true from aH z) (bI d);rw[kH.2]at this;cases this) kH.2 ha (by lia)) (hA.filter _) (by have:=wB d;lia)
 have hu:o9 gm [.dict (c8 (m5 m k) (kdS m k A 0)),.list ((lfS m k A 0).map f8)]=a2n (E7 gm [.dict (c8 (m5 m k) (kdS m k A 0)),.list ((lfS m k A 0).map f8),.none,.none,.none]):=by
  unfold o9;rw[b5J (by simp[VS.argsOk])];rfl
 rw[hu];unfold E7;walk_at "ev";rw[show a4Y (b7 0) [.dict (c8 (m5 m k) (kdS m k A 0)),.list ((lfS m k A 0).map f8),.none,.none,.none]=el (.dict (c8 (m5 m k) (kdS m k A 0))) by
  show (if E4 (c8 (m5 m k) (kdS m k A 0)) then el (ba.dict (c8 (m5 m k) (kdS m k A 0))) else p4)=_;rw[aB hok]]
 walk_at "ev";rw[b5K (ds:=[.dict (c8 (m5 m k) (kdS m k A 0)),.list ((lfS m k A 0).map f8)]) (by walk_at "ev"),round 0 (by lia)];walk_at "ev";obtain⟨ρ',g1,d,x,y,qW,hd,rfl⟩:=a8N (c:=(tVD (b7 4))) (g:=(i4 (a9L 3 4) (i4 (j8 1 (l0 (iI (iL (b7 1))) [4] pt1 (tB (e2 (dIn true true) (b7 0) (b7 1))) (b7 0))) (j8 4 (b0a o5 gm (b8 (b7 3) (b8 (b7 1) g8)))))))
  (I:=λd ρ=>d+(lfS m k A d).length≤(lfS m k A 0).length∧ρ=[.dict (c8 (m5 m k) (kdS m k A 0)),.list ((lfS m k A d).map f8),.none,.dict (c8 (m5 m k) (kdS m k A d)),.dict (c8 (m5 m k) (nwS m k A d))])
  (Q:=λρ=>∃d x y,nwS m k A d=[]∧d≤(lfS m k A 0).length∧ρ=[.dict (c8 (m5 m k) (kdS m k A 0)),x,.none,.dict (c8 (m5 m k) (kdS m k A d)),y]) 1000 (by
   rintro d ρ ⟨hd,rfl⟩;have h0:=wB 0;refine⟨by lia,?_⟩;have ht:tVD (b7 4) [.dict (c8 (m5 m k) (kdS m k A 0)),.list ((lfS m k A d).map f8),.none,.dict (c8 (m5 m k) (kdS m k A d)),.dict (c8 (m5 m k) (nwS m k A d))]=el !(nwS m k A d).isEmpty:=b7Y rfl;by_cases hV:nwS m k A d=[]
   ·refine .inl ⟨by rw[ht,hV];rfl,d,_,_,hV,by lia,rfl⟩
   ·have qo:=b3e hV;refine .inr ⟨by rw[ht];cases e:nwS m k A d with|nil=>exact absurd e hV|cons _ _=>rfl,[.dict (c8 (m5 m k) (kdS m k A 0)),.list ((lfS m k A (d+1)).map f8),.none,.dict (c8 (m5 m k) (kdS m k A (d+1))),.dict (c8 (m5 m k) (nwS m k A (d+1)))],?_,by lia,rfl⟩;have hu:=b7Z (i:=3) (j:=4) (ρ:=[.dict (c8 (m5 m k) (kdS m k A 0)),.list ((lfS m k A d).map f8),.none,.dict (c8 (m5 m k) (kdS m k A d)),.dict (c8 (m5 m k) (nwS m k A d))]) (g:=m5 m k) (l:=kdS m k A d) (l':=nwS m k A d) rfl rfl (λz=>by
      obtain⟨S,hS⟩:=qI _ h1;have q:=B9.mp hS;have:S∈kdS m k A d:=B9.mpr ⟨q.1,a4i q.2 (bI _)⟩;rw[z]at this;cases this) (λp hp hk=>by
      have h2:=(B9.mp hk).2;rw[(a0E.mp hp).2.1]at h2;cases h2) (by have:=Dv d;have:=wB d;have:=dB (λS=>(lta m k d S).isSome) (lfS m k A d);unfold nwS;lia)
    have hc:l0 (iI (iL (b7 1))) [4] pt1 (tB (e2 (dIn true true) (b7 0) (b7 1))) (b7 0) [.dict (c8 (m5 m k) (kdS m k A 0)),.list ((lfS m k A d).map f8),.none,.dict (c8 (m5 m k) (kdS m k A d++nwS m k A d)),.dict (c8 (m5 m k) (nwS m k A d))]=el (.list ((lfS m k A (d+1)).map f8)):=by
     rw[a1S (enc:=f8) (xs:=lfS m k A d) (λS=>!decide (S∈nwS m k A d)) f8 ?_ (by have:=wB d;lia),a6u]
     ·intro S hS;refine⟨_,rfl,?_,λ_=>rfl⟩;show tB (e2 (dIn true true) (b7 0) (b7 1)) [f8 S,.dict (c8 (m5 m k) (nwS m k A d))]=_;walk_at "ev";rw[b7X];cases decide (S∈nwS m k A d)<;>rfl
     ·rw[a0X (ds:=(lfS m k A d).map f8) (by walk_at "ev") (r9 _ E8 _)]
    rw[C8,hu];walk_at "ev";rw[hc];walk_at "ev";rw[b5K (ds:=[.dict (c8 (m5 m k) (kdS m k A (d+1))),.list ((lfS m k A (d+1)).map f8)]) (by walk_at "ev";rfl),round (d+1) (by lia)];walk_at "ev";rfl) 1000000 0 [.dict (c8 (m5 m k) (kdS m k A 0)),.list ((lfS m k A 0).map f8),.none,.dict (c8 (m5 m k) (kdS m k A 0)),.dict (c8 (m5 m k) (nwS m k A 0))] ⟨by lia,rfl⟩ (by lia)
 rw[c1d,g1];walk_at "ev";exact⟨d,rfl,qW,hd⟩
end
end Prog
local macro_rules | `(tactic| walk_at "evn")=>`(tactic| first | (walk_at "ev";repeat (simp -implicitDefEqProofs (disch:=first | omega | assumption | decide) only [VS.a5b,VS.a5c];try walk_at "ev")) | (simp -implicitDefEqProofs (disch:=first | omega | assumption | decide) only [VS.a5b,VS.a5c];repeat (first | walk_at "ev" | simp -implicitDefEqProofs (disch:=first | omega | assumption | decide) only [VS.a5b,VS.a5c])))
namespace VS
open PySem L2
def Y2:Nat→List (List Int)
 |0=>[[]]
 |j+1=>Y2 j++(Y2 j).map λS=>S++[(j:Int)]
def sts(n:Nat):List (List Int):=(Y2 n).drop 1
theorem P8:∀{j:Nat} {S:List Int},S∈Y2 j↔S.Pairwise (· < ·)∧∀s∈S,0≤s∧s<(j:Int)
 |0,S=>by
  show S∈[[]]↔_;rw[ao]
  constructor
  ·rintro rfl;exact⟨ik,λs hs=>(nomatch hs)⟩
  ·rintro⟨_,h⟩;cases S with
   |nil=>rfl
   |cons s r=>have:=h s aj;lia
 |j+1,S=>by
  show S∈Y2 j++(Y2 j).map _↔_;rw[aF,aY]
  constructor
  ·rintro (h|⟨T,h,rfl⟩)
   ·have:=P8.mp h;exact⟨this.1,λs hs=>by have:=this.2 s hs;lia⟩
   ·have:=P8.mp h;refine⟨lE.mpr ⟨this.1,by simp,λa ha b hb=>?_⟩,λs hs=>?_⟩
    ·have:=this.2 a ha;rw[ao]at hb;lia
    ·rcases aF.mp hs with z|z
     ·have:=this.2 s z;lia
     ·rw[ao]at z;lia
  ·rintro⟨h1,h2⟩;by_cases c:(j:Int)∈S
   ·refine .inr ⟨S.filter λs=>decide (s<(j:Int)),P8.mpr ⟨h1.filter _,λs hs=>?_⟩,?_⟩
    ·have:=bu.mp hs;exact⟨(h2 s this.1).1,aN this.2⟩
    ·refine a3e (lE.mpr ⟨h1.filter _,by simp,λa ha b hb=>?_⟩) h1 λx=>?_
     ·rw[ao]at hb;rw[hb];exact aN (bu.mp ha).2
     ·rw[aF,bu,ao,bU]
      constructor
      ·rintro (z|z)
       ·exact z.1
       ·rw[z];exact c
      ·intro z;have:=h2 x z;by_cases e:x=j
       ·exact .inr e
       ·exact .inl ⟨z,by lia⟩
   ·refine .inl (P8.mpr ⟨h1,λs hs=>⟨(h2 s hs).1,?_⟩⟩);have:=h2 s hs;have:s≠(j:Int):=λe=>c (e▸hs)
    lia
theorem Z6:∀n,Y2 n=[]::sts n
 |0=>rfl
 |n+1=>by
  unfold sts;show Y2 n++_=[]::List.drop 1 (Y2 n++_);rw[Z6 n];rfl
def a6z:∀n,n<6→(Y2 n).Nodup:=by decide +kernel
def a5j:∀n,n<6→(sts n).length≤31:=by decide +kernel
def c1g:∀n,n<6→((sts n).filter λS=>!decide (S.length=1)).length≤26:=by decide +kernel
def b3i{n:Nat}(h:n≤5):(sts n).Nodup:=by
 have:=a6z n (by lia);rw[Z6]at this;exact (bt.mp this).2
def F8{m:m4}(h:m.length≤5){S:List Int}:S∈sts m.length↔SetK m S:=by
 have hn:=a6z m.length (by lia);have h1:=P8 (j:=m.length) (S:=S);rw[Z6]at hn h1;rw[az]at h1
 constructor
 ·intro q;have:=h1.mp (.inr q);exact⟨this.1,λe=>(bt.mp hn).1 (e▸q),this.2⟩
 ·rintro⟨q1,q2,q3⟩;exact (h1.mpr ⟨q1,q3⟩).resolve_left q2
end VS
namespace Prog
open PySem L2 VS
theorem a3i{α:Type}{p q:α→Bool}:∀{l:List α},(∀a∈l,p a=q a)→l.find? p=l.find? q
 |[],_=>rfl
 |x::l,h=>by
  rw[gW,gW,h x aj,a3i λa ha=>h a (aq _ ha)]
def SetK.len(h:SetK m b):b.length≤m.length:=a6s (h.1.imp λz=>by lia) h.2.2
def b5i:∀n,n<6→1≤n→E4 (c8 (λ_=>.none) ((sts n).filter λS=>decide (S.length=1)))=true:=by decide +kernel
def b3j:∀n,n<6→1≤n→((sts n).filter λS=>decide (S.length=1))≠[]:=by decide +kernel
def b5j{m:m4}{k n:Nat}(h:n<6)(h1:1≤n):E4 (c8 (m5 m k) (kdS m k (sts n) 0))=true:=by
 have:c8 (m5 m k) (kdS m k (sts n) 0)=c8 (λ_=>.none) ((sts n).filter λS=>decide (S.length=1)):=by
  unfold c8 kdS;refine cD λS hS=>?_
  rw[show m5 m k S=.none from aB (aN (bu.mp hS).2)]
 rw[this];exact b5i n h h1
def a3j:∀n:Nat,n≤5→W3 [.int n]=el (.list ((sts n).map f8))
 |0,_|1,_|2,_|3,_|4,_|5,_=>by rfl
 |n+6,h=>by lia
def a6A:∀n:Nat,n≤5→m_law_sets [.int n]=el (.list ((sts n).map f8))
 |0,_|1,_|2,_|3,_|4,_|5,_=>by rfl
 |n+6,h=>by lia
def bvD(m:m4)(k:Nat)(S:List Int):D:=.list ((aX k).map λ(a:Nat)=>bhD m a S)
section
variable {m:m4}{k:Nat}(w:WF m k)(h5:m.length≤5)
include w h5
theorem b8a{d a:Nat}(ha:a<k){S:List Int}(hS:SetK m S):tsl m (kdS m k (sts m.length) d) a S=tst (tb m k d) m a S:=by
 unfold tsl tst
 congr 1;rw[dG,bj,bj];have key:∀s∈S,(decide (prt m a S (stp m s a).1∈kdS m k (sts m.length) d)=true↔tb m k d (prt m a S (stp m s a).1)=true):=λs hs=>by
  rw[bU,B9,F8 h5];exact⟨λq=>q.2,λq=>⟨SetK.prt w hS ha hs,q⟩⟩
 constructor
 ·intro q s hs;refine (key s hs).mp (q _ (a5i.mpr ?_));have:s∈(S.zip S).map (·.1):=by rw[R6];exact hs
  obtain⟨p,hp,rfl⟩:=aY.mp this;exact⟨p,hp,rfl⟩
 ·intro q x hx;obtain⟨p,hp,rfl⟩:=a5i.mp hx;have hs:p.1∈S:=by have:=bG (f:=Prod.fst) hp;rw[R6]at this;exact this
  exact (key p.1 hs).mpr (q p.1 hs)
theorem SetK.le5{S:List Int}(hS:SetK m S):S.length≤5:=cw (SetK.len hS) h5
theorem a3r:∃d,u6 [.list (m.map rwD)]=el (.dict (c8 (m5 m k) (kdS m k (sts m.length) d)))∧nwS m k (sts m.length) d=[]∧d≤26:=by
 have qX:=w.pos;have yw:=w.k5;have si:=a5j m.length (by lia);have hA:=b3i h5;obtain⟨d,r1,r2,r3⟩:=Z5 (m:=m) (k:=k) hA (by lia) (b3j m.length (by lia) qX) (b5j (by lia) qX) (gm:=fnE [.i,.f] ([2].map λj=>([.list (m.map rwD),.dict (c8 (m5 m k) (kdS m k (sts m.length) 0)),.dict (c8 (bvD m k) (lfS m k (sts m.length) 0)),.none]:List D).getD j .none) (eCl p6 (b8 (e2 (X0 true) (b7 2) (b7 0)) (b8 (b7 1) g8)))) (λd hd S hS=>by
  have kH:=W6.mp hS;have hK:=(F8 h5).mp kH.1;rw[b9N (by simp[VS.argsOk,E8])];show eCl p6 (b8 (e2 (X0 true) (b7 2) (b7 0)) (b8 (b7 1) g8)) [f8 S,.dict (c8 (m5 m k) (kdS m k (sts m.length) d)),.dict (c8 (bvD m k) (lfS m k (sts m.length) 0))]=_;walk_at "ev";rw[b5L (W6.mpr ⟨kH.1,by cases x:tb m k 0 S with|false=>rfl|true=>have:=a4i x (bI d);rw[kH.2]at this;cases this⟩)];walk_at "ev";have kW:=SetK.le5 w h5 hK;rw[show bvD m k S=.list ((aX k).map λ(a:Nat)=>bhD m a S) from rfl,a1g yw (by lia)];unfold lta;rw[a3i λa ha=>b8a w h5 (b_.mp ha) hK])
 refine⟨d,?_,r2,cw r3 (c1g m.length (by lia))⟩;unfold u6;rw[O2 (by simp[VS.argsOk])];unfold a0z;walk_at "ev";rw[a0X (ds:=(sts m.length).map f8) (by walk_at "ev";rw[a3j _ h5];walk_at "ev") (r9 _ E8 _)];walk_at "ev";refine a0t (λρ=>∃x,ρ=[.list (m.map rwD),.dict (c8 (m5 m k) (kdS m k (sts m.length) 0)),.dict (c8 (bvD m k) (lfS m k (sts m.length) 0)),x]) ?_ ?_
 ·obtain⟨ρ',g1,x,rfl⟩:=P0 (enc:=f8) (set:=x9 3) (xs:=sts m.length) (g:=(sIf (tB (e2 dEq (eCl y6 (b8 (b7 3) g8)) (eC (.int 1)))) (B3 1 true (b7 3) (eC .none)) (B3 2 true (b7 3) (eCl z0 (b8 (b7 0) (b8 (b7 3) g8)))))) (ρ:=[.list (m.map rwD),.dict [],.dict [],.none])
   (λpre ρ=>∃x,ρ=[.list (m.map rwD),.dict (c8 (m5 m k) (kdS m k pre 0)),.dict (c8 (bvD m k) (lfS m k pre 0)),x]) ⟨_,rfl⟩ (by
    rintro pre S post e ρ ⟨x,rfl⟩;have Ef:S∈sts m.length:=by rw[e];simp
    have hK:=(F8 h5).mp Ef;have kW:=SetK.le5 w h5 hK;have lh:S∉pre:=by
     rw[e]at hA;have:=aZ.mp hA;exact λz=>this.2.2 S z S aj rfl
    have fJ:pre.length≤31:=by rw[e,bg]at si;lia
    have l1:(kdS m k pre 0).length≤pre.length:=dB _ _;have l2:(lfS m k pre 0).length≤pre.length:=dB _ _;refine⟨_,[.list (m.map rwD),.dict (c8 (m5 m k) (kdS m k (pre++[S]) 0)),.dict (c8 (bvD m k) (lfS m k (pre++[S]) 0)),f8 S],rfl,?_,_,rfl⟩;show (sIf (tB (e2 dEq (eCl y6 (b8 (b7 3) g8)) (eC (.int 1)))) (B3 1 true (b7 3) (eC .none)) (B3 2 true (b7 3) (eCl z0 (b8 (b7 0) (b8 (b7 3) g8))))) [.list (m.map rwD),.dict (c8 (m5 m k) (kdS m k pre 0)),.dict (c8 (bvD m k) (lfS m k pre 0)),f8 S]=_;have hlen:y6 [f8 S]=el (.int S.length):=by show el (ay ((S.map ay).length:Nat))=_;rw[ar]
    walk_at "ev";rw[hlen];walk_at "ev";by_cases c:S.length=1
    ·rw[aH (show (S.length:Int)=1 by lia)];walk_at "ev";rw[a1T (g:=m5 m k) (a:=S) (l:=kdS m k pre 0) (by rw[show m5 m k S=.none from aB c];rfl) rfl rfl (by lia)];have e1:kdS m k (pre++[S]) 0=a5g S (kdS m k pre 0):=by
      unfold a5g;rw[aI λz=>lh (B9.mp z).1];unfold kdS;rw[e_,eB (by exact aH c)];rfl
     have e2:lfS m k (pre++[S]) 0=lfS m k pre 0:=by
      unfold lfS;rw[e_,eD (by show ¬ (!decide (S.length=1))=true;rw[aH c];decide)];simp
     rw[e1,e2];rfl
    ·rw[aR (show ¬ (S.length:Int)=1 by lia)];walk_at "ev";rw[a1T (g:=bvD m k) (a:=S) (l:=lfS m k pre 0) (by walk_at "ev";rw[a3h w hK (by lia)];rfl) rfl rfl (by lia)];have e1:kdS m k (pre++[S]) 0=kdS m k pre 0:=by
      unfold kdS;rw[e_,eD (by rw[aR c];decide)];simp
     have e2:lfS m k (pre++[S]) 0=a5g S (lfS m k pre 0):=by
      unfold a5g;rw[aI λz=>lh (W6.mp z).1];unfold lfS;rw[e_,eB (by show (!decide (S.length=1))=true;rw[aR c];rfl)];rfl
     rw[e1,e2];rfl)
  exact⟨_,g1,_,rfl⟩
 ·rintro ρ ⟨x,rfl⟩;walk_at "ev";have Dq:a7H (b7 2) [.list (m.map rwD),.dict (c8 (m5 m k) (kdS m k (sts m.length) 0)),.dict (c8 (bvD m k) (lfS m k (sts m.length) 0)),x]=el (.list ((lfS m k (sts m.length) 0).map f8)):=by
   show (if f6 ((c8 (bvD m k) (lfS m k (sts m.length) 0)).map (·.1)) then el (gP ((c8 (bvD m k) (lfS m k (sts m.length) 0)).map (·.1))) else p4)=_;rw[b0B,aB (r9 _ E8 _)]
  rw[b9M (ds:=[.dict (c8 (m5 m k) (kdS m k (sts m.length) 0)),.list ((lfS m k (sts m.length) 0).map f8)]) (by walk_at "ev";rw[Dq];walk_at "ev")];rw[show o9 (fnE [.i,.f] (List.map (λj=>([.list (m.map rwD),.dict (c8 (m5 m k) (kdS m k (sts m.length) 0)),.dict (c8 (bvD m k) (lfS m k (sts m.length) 0)),x]:List D).getD j .none) [2]) (eCl p6 (b8 (e2 (X0 true) (b7 2) (b7 0)) (b8 (b7 1) g8)))) [.dict (c8 (m5 m k) (kdS m k (sts m.length) 0)),.list ((lfS m k (sts m.length) 0).map f8)]=_ from r1];walk_at "ev"
end
def b3k{a:EvE}{ρ:List D}{as:List (List Int)}(h:a ρ=el (.list (as.map f8)))(hl:as.length<60)(gj:∀q∈as,q≠[]):a4U true a ρ=el (.list ((X1 as).map f8)):=by
 unfold a4U;rw[h,bH];show a2y true (as.map f8)=_;unfold a2y;rw[a2Z,bH,aB]
 ·rfl
 ·unfold okK;rw[aH (by lia),jV];have:(as.all λns=>!ns.isEmpty)=true:=by
   rw[bj];intro ns qm;have:=gj ns qm;simpa using this
  rw[this,Bool.or_true]
def a1I{m:m4}(h7:m.length≤7):u5 [.list (m.map rwD)]=el .none:=by
 unfold u5;rw[b5H (by simp[VS.argsOk])];unfold M8;walk_at "evn";rw[aR (show ¬ (7:Int)<m.length by lia)];walk_at "evn"
def b3l{m:m4}(h5:m.length≤5){g:List Int→D}{l:List (List Int)}(nL:u6 [.list (m.map rwD)]=el (.dict (c8 g l))):a0A [.list (m.map rwD)]=el (.list (((X1 (sts m.length)).filter λS=>!decide (S∈l)).map iD)):=by
 have si:=a5j m.length (by lia);unfold a0A;rw[O2 (by simp[VS.argsOk])];unfold a8L;walk_at "ev";rw[a1I (by lia)];walk_at "ev";rw[nL];walk_at "ev";rw[a1S (enc:=f8) (xs:=X1 (sts m.length)) (λS=>!decide (S∈l)) iD (a0X (by rw[b4S,b3k (as:=sts m.length) (by walk_at "ev";rw[a3j _ h5]) (by lia) λq hq=>((F8 h5).mp hq).2.1];rfl) (r9 _ E8 _)) (by rw[(D0 _).length_eq];lia) λS hS=>?_]
 ·walk_at "ev"
 ·refine⟨_,rfl,?_,λ_=>?_⟩
  ·show tB (e2 (v9 true true) (b7 0) (b7 1)) [f8 S,.dict (c8 g l)]=_;walk_at "ev";rw[a1F];cases decide (S∈l)<;>rfl
  ·show eI (L7 (b7 0)) [f8 S,.dict (c8 g l)]=el (iD S);rw[b2L,a4Z];exact a8K
section
variable {m:m4}{k:Nat}(w:WF m k)(h5:m.length≤5){d:Nat}(hd:d≤31)
include w h5 hd
theorem b3m:∀(j:Nat),j≤d→∀(B:BG) (S:List Int),SetK m S→(∀s,s∈B.map (·.1)↔s∈S)→(B.map (·.1)).Nodup→tb m k j S=true→∀f,j<f→∃t,J6 f [.list (m.map rwD),.dict (c8 (m5 m k) (kdS m k (sts m.length) d)),bgD B]=el t∧isN t=false:=by
 intro j
 induction j using Nat.strongRecOn with
 |_ j ih=>
  intro hj B S hS hB hn ht f hf;obtain⟨f,rfl⟩:∃q,f=q+1:=⟨f-1,by lia⟩;have kW:=SetK.le5 w h5 hS;have rW:(B.map (·.1)).Perm S:=(qd hn (hS.1.imp λh=>by lia)).mpr hB;have Eu:B.length=S.length:=by have:=rW.length_eq;rw[ar]at this;exact this
  have hu:J6 (f+1) [.list (m.map rwD),.dict (c8 (m5 m k) (kdS m k (sts m.length) d)),bgD B]=a2n (a5e (J6 f) [.list (m.map rwD),.dict (c8 (m5 m k) (kdS m k (sts m.length) d)),bgD B,.none,.none,.none,.none]):=by
   show fnD _ _ _ _=_;rw[O2 (by simp[VS.argsOk])];rfl
  rw[hu];unfold a5e;have hlen:a5G [bgD B]=el (.int B.length):=by show el (ay ((kvD ay B).length:Nat))=_;rw[a8P]
  walk_at "ev";rw[hlen];walk_at "ev";by_cases c:S.length=1
  ·rw[aH (show (B.length:Int)=1 by lia)];obtain⟨p,rfl⟩:∃p,B=[p]:=by
    match B,Eu.trans c with
    |[p],_=>exact⟨p,rfl⟩
   walk_at "ev";rw[b4Z (W:=[p]) rfl];exact⟨.int p.2,rfl,rfl⟩
  ·rw[aR (show ¬ (B.length:Int)=1 by lia)];walk_at "ev";obtain⟨e,a,he,ha,yR,qU⟩:=b3c j (by lia) ht c;have jg:w6 (H9 false (b7 2)) [.list (m.map rwD),.dict (c8 (m5 m k) (kdS m k (sts m.length) d)),bgD B,.none,.none,.none,.none]=el (f8 S):=by
    rw[a0Y,a3f (kvs:=kvD ay B) (es:=B.map (·.1)) rfl b2U (by rw[ar];lia),a8R hn,show a3d (B.map (·.1))=S from a3e (U6 _) hS.1 λx=>by rw[U5];exact hB x];exact O9
   have jW:S∈kdS m k (sts m.length) d:=B9.mpr ⟨(F8 h5).mpr hS,a4i ht hj⟩;rw[jg];walk_at "ev";rw[b5L jW,yR];walk_at "ev";unfold tst at qU;rw[av]at qU;have r_:A9 m a (B.map (·.1))=true:=by rw[b0E rW];exact qU.1
   rw[a0G w ha (λp hp=>hS.2.2 p.1 ((hB p.1).mp (bG hp))) (by lia),aB r_];walk_at "ev";have tG:=a5h (m:=m) (a:=a) (B:=B);have xU:H9 false (b7 4) [.list (m.map rwD),.dict (c8 (m5 m k) (kdS m k (sts m.length) d)),bgD B,.int a,ptD m a B,.list [],.none]=el (iD (a2Y (anL m a B))):=a3f (kvs:=p7 (λx=>bgD (gp m a B x)) (anL m a B)) rfl a4j (by lia);rw[a0X (ds:=(a2Y (anL m a B)).map .int) (by rw[b4S,xU];rfl) (w8 _)];walk_at "ev";have sZ:((B.map (·.1)).map λs=>stp m s a).Nodup:=aN r_;obtain⟨ρ',g1,ds,x,tm,rfl⟩:=P0 (enc:=ay) (set:=x9 6) (xs:=a2Y (anL m a B)) (g:=(D6 5 (.l .f) q9 (N7 (b8 (b7 6) (b8 (eCl (J6 f) (b8 (b7 0) (b8 (b7 1) (b8 (e2 (X0 false) (b7 4) (b7 6)) g8)))) g8))))) (ρ:=[.list (m.map rwD),.dict (c8 (m5 m k) (kdS m k (sts m.length) d)),bgD B,.int a,ptD m a B,.list [],.none])
    (λpre ρ=>∃(ds:List D) (x:D),ds.length=pre.length∧ρ=[.list (m.map rwD),.dict (c8 (m5 m k) (kdS m k (sts m.length) d)),bgD B,.int a,ptD m a B,.list ds,x]) ⟨[],_,rfl,rfl⟩ (by
     rintro pre x post e9 ρ ⟨ds,y,tm,rfl⟩;have hx:x∈anL m a B:=(W5 _).mem_iff.mp (by rw[e9];simp);obtain⟨p,hp,Af⟩:=a5i.mp hx;have Ai:p.1∈S:=(hB p.1).mp (bG hp);have fJ:pre.length≤31:=by
      have h1:=fC iQ e9;rw[(W5 _).length_eq,bg]at h1;lia
     obtain⟨t,uc,_⟩:=ih e he (by lia) (gp m a B x) (prt m a S x) (by rw[←Af];exact SetK.prt w hS ha Ai) (λs=>by
      rw[a1W,a1U,a0D];exact⟨λ⟨q,hq,z⟩=>⟨q,(hB q).mp hq,z⟩,λ⟨q,hq,z⟩=>⟨q,(hB q).mpr hq,z⟩⟩) (by rw[a1W];exact a7W sZ) (by rw[←Af];exact bj.mp qU.2 p.1 Ai) f (by lia)
     refine⟨_,[.list (m.map rwD),.dict (c8 (m5 m k) (kdS m k (sts m.length) d)),bgD B,.int a,ptD m a B,.list (ds++[.tuple [.int x,t]]),.int x],rfl,?_,_,_,by simp[tm],rfl⟩;have hv:N7 (b8 (b7 6) (b8 (eCl (J6 f) (b8 (b7 0) (b8 (b7 1) (b8 (e2 (X0 false) (b7 4) (b7 6)) g8)))) g8)) [.list (m.map rwD),.dict (c8 (m5 m k) (kdS m k (sts m.length) d)),bgD B,.int a,ptD m a B,.list ds,.int x]=el (.tuple [.int x,t]):=by
      walk_at "ev";rw[show X0 false (ptD m a B) (.int x)=el (bgD (gp m a B x)) from b3f hx];walk_at "ev";rw[uc];walk_at "ev"
     show D6 5 (.l .f) q9 _ [.list (m.map rwD),.dict (c8 (m5 m k) (kdS m k (sts m.length) d)),bgD B,.int a,ptD m a B,.list ds,.int x]=_;rw[b1B,hv];show a9v 5 (.list ds) (el (.tuple [.int x,t])) _=_;rw[Q9 (by lia)];rfl)
   rw[g1];walk_at "ev";exact⟨_,rfl,rfl⟩
theorem a6B(nL:u6 [.list (m.map rwD)]=el (.dict (c8 (m5 m k) (kdS m k (sts m.length) d))))(DL:d≤26){S:List Int}(hS:SetK m S):∃t,z7 [.list (m.map rwD),iD S]=el t∧isN t=!decide (S∈kdS m k (sts m.length) d):=by
 have kW:=SetK.le5 w h5 hS;have jl:S.Nodup:=hS.1.imp λh=>by lia
 unfold z7;rw[O2 (by simp[VS.argsOk])];unfold Y0;walk_at "ev";rw[nL];walk_at "ev";rw[show w6 (b7 1) [.list (m.map rwD),iD S,.dict (c8 (m5 m k) (kdS m k (sts m.length) d))]=el (f8 S) by rw[a0Y];exact O9];walk_at "ev";rw[a1F];by_cases c:S∈kdS m k (sts m.length) d
 ·rw[aH c];walk_at "ev";rw[a3g (l:=true) (S:=S) rfl jl (by lia)];walk_at "ev";obtain⟨t,h1,h2⟩:=b3m w h5 hd d (aD _) (S.zip S) S hS (λs=>by rw[R6]) (by rw[R6];exact jl) (B9.mp c).2 27 (by lia);rw[h1];exact⟨t,rfl,h2⟩
 ·rw[aR c];walk_at "ev";exact⟨.none,rfl,rfl⟩
end
def b5k{n:Nat}{s:Int}(h0:0≤s)(h1:s<(n:Int)):R4 [.int s,.int n]=el (.bool true):=by
 unfold R4;rw[O2 (by simp[VS.argsOk,imm])];unfold a2S;walk_at "ev";rw[show R1 [.int s]=el (.bool true) by
  unfold R1;rw[O2 (by simp[VS.argsOk])];unfold a2Q;walk_at "ev"]
 walk_at "ev";rw[aH h0];walk_at "ev";rw[aH h1]
def b0G{m:m4}(h7:m.length≤7)(hb:SetK m b):a0B [.list (b.map .int),.int m.length]=el (.bool true):=by
 have FR:=SetK.len hb;have qX:0<b.length:=List.length_pos_iff.mpr hb.2.1;unfold a0B;rw[O2 (by simp[VS.argsOk,imm])];unfold a6p;walk_at "ev";rw[show B8 [.list (b.map .int),.int m.length]=el (.bool true) by
  unfold B8;rw[O2 (by simp[VS.argsOk,imm])];unfold R9;walk_at "ev";rw[aH (show (1:Int)≤b.length by lia)];walk_at "ev";rw[aH (show (b.length:Int)≤m.length by lia)]]
 walk_at "ev";rw[a5f (enc:=ay) (xs:=b) (λs=>df ((λ_=>true) s)) (a0X (by walk_at "ev") (r9 _ (λ_=>a0j) _)) (by lia) (λs hs=>⟨_,rfl,?_⟩)]
 ·walk_at "ev";rw[v_all (λ_=>true) b,bj.mpr (λ_ _=>rfl)];walk_at "ev";rw[b0D (ns:=b) (by walk_at "ev") (by lia),b0C hb.1];walk_at "ev";rw[show dEq (.list (b.map .int)) (.list (b.map .int))=_ from b9y (xs:=b) (ys:=b),aH rfl];walk_at "ev"
 ·have:=hb.2.2 s hs;walk_at "ev";exact b5k this.1 this.2
def a7Z{m:m4}(h7:m.length≤7){S:List Int}(hS:SetK m S):A8 [.list (m.map rwD),iD S]=z7 [.list (m.map rwD),iD S]:=by
 unfold A8;rw[O2 (by simp[VS.argsOk])];unfold a4c;walk_at "ev";rw[a1I h7];walk_at "ev";rw[show R5 [.list (m.map rwD),.list (S.map .int)]=el .none by
  unfold R5;rw[b5H (by simp[VS.argsOk])];unfold a2U;walk_at "evn";rw[b0G h7 hS];walk_at "evn"]
 walk_at "ev";cases z7 [.list (m.map rwD),.list (S.map .int)]<;>rfl
def b5l{i:Nat}{kt:Bool}{fk fe:EvE}{ρ:List D}{k d:D}{kvs:List (D×D)}{es:List D}(hk:fk ρ=el k)(he:fe ρ=el d)(hd:ρ.getD i .none=.dict kvs)(hK:m9 kt k=true)(hg:y7 kvs k=el (.list es))(hl:es.length<1000000) :
  a3P i kt fk fe ρ=el (.nx (ρ.set i (.dict (n8 kvs k (.list (es++[d])))))):=by
 unfold a3P;rw[hk,bH,he,bH,hd];show (if m9 kt k=true then _ else _)=_;rw[aB hK,hg];show (if es.length<1000000 then _ else _)=_;rw[aB hl]
theorem a4k(e:Int):∀es:List Int,((es.map ay).any λd=>aJ d (.int e))=decide (e∈es)
 |[]=>rfl
 |x::es=>by
  rw[aA,jT,a4k e es,a1Q,dG];simp only[gX,bU,az];exact or_congr_left eq_comm
def b8b{neg:Bool}{e:Int}{es:List Int}:a9N neg (.int e) (iD es)=el (.bool (neg !=decide (e∈es))):=by
 show (if be (es.map ay)&&(ay e).canLay0&&decide ((ay e).depth≤60) then el (df (neg !=(es.map ay).any λd=>aJ d (.int e))) else p4)=_;rw[a0u _ (λ_=>a5a),a5a,W2,a4k];rfl
def b5m{a:EvE}{ρ:List D}{ns:List Int}(h:a ρ=el (iD ns))(hl:ns.length<60):a3K a ρ=el (iD (srt ns)):=by
 unfold a3K;rw[h,bH];show (intsOf (ns.map .int)).bind _=_;rw[Y8,bH,aB (by lia)]
section
variable {m:m4}{a:Nat}{S:List Int}{x s:Int}
def a6C:toA m a (S++[s]) x=if (stp m s a).1=x then toA m a S x++[(stp m s a).2] else toA m a S x:=by
 unfold toA;rw[e_,aT];by_cases c:(stp m s a).1=x
 ·rw[aB c,eB (by exact aH c)];rfl
 ·rw[aI c,eD (by rw[aR c];exact aQ)];simp
def b3n(h:x∉ddE (S.map λs=>(stp m s a).1)):toA m a S x=[]:=by
 unfold toA;rw[fU.mpr λs hs c=>h ((W7 _).mpr (aY.mpr ⟨s,hs,aN c⟩))];rfl
def b3o:(toA m a S x).length≤S.length:=by unfold toA;rw[ar];exact dB _ _
def a4l:A9 m a (S++[s])=(A9 m a S&&!decide ((stp m s a).2∈toA m a S (stp m s a).1)):=by
 have hm:((stp m s a).2∈toA m a S (stp m s a).1)↔stp m s a∈S.map λs=>stp m s a:=by
  rw[a1U,aY]
 unfold A9;rw[dG,av,bU,bU,aT,aZ,fF,hX,hm]
 constructor
 ·rintro⟨h1,_,h3⟩;exact⟨h1,λz=>h3 _ z _ (ao.mpr rfl) rfl⟩
 ·rintro⟨h1,h2⟩;exact⟨h1,by simp,λx hx y hy e=>h2 (by have:=ao.mp hy;subst this;subst e;exact hx)⟩
def b0H{T:List Int}(h:A9 m a (S++T)=true):A9 m a S=true:=by
 unfold A9 at h ⊢;rw[bU]at h ⊢;rw[aT]at h;exact (aZ.mp h).1
end
section
variable {m:m4}{k:Nat}(w:WF m k){a:Nat}(ha:a<k){S:List Int}(hS:SetK m S)(kW:S.length≤30){g:List Int→D}{l:List (List Int)}
include w ha hS kW
theorem a6D:m_law_free [.list (m.map rwD),.dict (c8 g l),f8 S,.int a]=el (.bool (A9 m a S&&S.all λs=>!decide (prt m a S (stp m s a).1∈l))):=by
 unfold m_law_free;rw[O2 (by simp[VS.argsOk,E8,imm])];unfold b_law_free;walk_at "ev";rw[a0X (ds:=S.map .int) (b7T (by walk_at "ev";rfl)) (w8 _)];walk_at "ev";rcases W4 (enc:=ay) (set:=x9 5) (xs:=S) (g:=(i4 (a3F 6 7 (e2 D5 (e2 dIx (b7 0) (b7 5)) (b7 3))) (i4 (sIf (tB (e2 (dIn true false) (b7 6) (b7 4))) (B3 4 false (b7 6) (J1 g8)) q8) (i4 (sIf (tB (e2 (a9N false) (b7 7) (e2 (a9y false) (b7 4) (b7 6)))) (n5 (eC (.bool false))) q8) (a3P 4 false (b7 6) (b7 7)))))) (ρ:=[.list (m.map rwD),.dict (c8 g l),f8 S,.int a,.dict [],.none,.none,.none])
   (λpre ρ=>A9 m a pre=true∧∃x y z,ρ=[.list (m.map rwD),.dict (c8 g l),f8 S,.int a,.dict (p7 (λx=>iD (toA m a pre x)) (ddE (pre.map λs=>(stp m s a).1))),x,y,z]) (λr=>r=.bool false∧A9 m a S=false) ⟨rfl,_,_,_,rfl⟩ (by
    rintro pre s post e ρ ⟨hf,x,y,z,rfl⟩;have hs:=hS.2.2 s (by rw[e];simp);have hr:=w.row hs.1 hs.2;have fJ:pre.length≤30:=by rw[e,bg]at kW;lia
    have zY:=b3o (m:=m) (a:=a) (S:=pre) (x:=(stp m s a).1);have tm:=a8U (pre.map λs=>(stp m s a).1);rw[ar]at tm;refine⟨[.list (m.map rwD),.dict (c8 g l),f8 S,.int a,.dict (p7 (λx=>iD (toA m a pre x)) (ddE (pre.map λs=>(stp m s a).1))),.int s,y,z],rfl,?_⟩;have hc:a3F 6 7 (e2 D5 (e2 dIx (b7 0) (b7 5)) (b7 3)) [.list (m.map rwD),.dict (c8 g l),f8 S,.int a,.dict (p7 (λx=>iD (toA m a pre x)) (ddE (pre.map λs=>(stp m s a).1))),.int s,y,z]=el (.nx [.list (m.map rwD),.dict (c8 g l),f8 S,.int a,.dict (p7 (λx=>iD (toA m a pre x)) (ddE (pre.map λs=>(stp m s a).1))),.int s,.int (stp m s a).1,.int (stp m s a).2]):=by
     walk_at "ev";rw[b4U hs.1 hs.2];walk_at "ev";rw[b9C (by lia) (by lia)];walk_at "ev";rfl
    have hi:(sIf (tB (e2 (dIn true false) (b7 6) (b7 4))) (B3 4 false (b7 6) (J1 g8)) q8) [.list (m.map rwD),.dict (c8 g l),f8 S,.int a,.dict (p7 (λx=>iD (toA m a pre x)) (ddE (pre.map λs=>(stp m s a).1))),.int s,.int (stp m s a).1,.int (stp m s a).2]=el (.nx [.list (m.map rwD),.dict (c8 g l),f8 S,.int a,.dict (p7 (λx=>iD (toA m a pre x)) (P6 (stp m s a).1 (ddE (pre.map λs=>(stp m s a).1)))),.int s,.int (stp m s a).1,.int (stp m s a).2]):=by
     rw[a0i];have jW:dIn true false (.int (stp m s a).1) (.dict (p7 (λx=>iD (toA m a pre x)) (ddE (pre.map λs=>(stp m s a).1))))=el (.bool !decide ((stp m s a).1∈ddE (pre.map λs=>(stp m s a).1))):=by
      rw[a8T,b7S,bO]
      congr 3;rw[show ((λx:Int×Int=>x.1) ∘ λx:Int=>(x,x))=λx=>x from rfl,gD];cases decide ((stp m s a).1∈ddE (pre.map λs=>(stp m s a).1))<;>rfl
     walk_at "ev";rw[jW];walk_at "ev";by_cases c:(stp m s a).1∈ddE (pre.map λs=>(stp m s a).1)
     ·rw[aH c];unfold P6;rw[aB c];rfl
     ·rw[aR c];show B3 4 false (b7 6) (J1 g8) [.list (m.map rwD),.dict (c8 g l),f8 S,.int a,.dict (p7 (λx=>iD (toA m a pre x)) (ddE (pre.map λs=>(stp m s a).1))),.int s,.int (stp m s a).1,.int (stp m s a).2]=_;rw[b2W (kt:=false) (k:=.int (stp m s a).1) (d:=.list []) (kvs:=p7 (λx=>iD (toA m a pre x)) (ddE (pre.map λs=>(stp m s a).1))) rfl rfl rfl (dKey_i _) (by rw[a6v];lia)];unfold P6 n8;rw[aI c,a1e,aR c,aI aQ];unfold p7;rw[aT];show _=el (Out.nx [_,_,_,_,.dict (_++[(ay (stp m s a).1,iD (toA m a pre (stp m s a).1))]),_,_,_]);rw[b3n c];rfl
    have ko:(stp m s a).1∈P6 (stp m s a).1 (ddE (pre.map λs=>(stp m s a).1)):=a2X.mpr (.inr rfl);have qw:=a1f (g:=λx=>iD (toA m a pre x)) ko;rw[C8,hc,B1,C8,hi,B1];have ht:(tB (e2 (a9N false) (b7 7) (e2 (a9y false) (b7 4) (b7 6)))) [.list (m.map rwD),.dict (c8 g l),f8 S,.int a,.dict (p7 (λx=>iD (toA m a pre x)) (P6 (stp m s a).1 (ddE (pre.map λs=>(stp m s a).1)))),.int s,.int (stp m s a).1,.int (stp m s a).2]=el (decide ((stp m s a).2∈toA m a pre (stp m s a).1)):=by
     walk_at "ev";rw[show a9y false (.dict (p7 (λx=>iD (toA m a pre x)) (P6 (stp m s a).1 (ddE (pre.map λs=>(stp m s a).1))))) (.int (stp m s a).1)=el (iD (toA m a pre (stp m s a).1)) by
      show (if m9 false (.int (stp m s a).1) then y7 _ _ else p4)=_;rw[dKey_i,aB rfl,qw]]
     walk_at "ev";rw[b8b,lG];rfl
    rw[C8,a0i,ht];by_cases c:(stp m s a).2∈toA m a pre (stp m s a).1
    ·rw[aH c];refine .inr ⟨.bool false,rfl,rfl,?_⟩;cases x:A9 m a S with
     |false=>rfl
     |true=>
      have e2:S=(pre++[s])++post:=by rw[e];simp
      rw[e2]at x;have:=b0H x;rw[a4l,aH c,hf]at this;cases this
    ·rw[aR c];refine .inl ⟨[.list (m.map rwD),.dict (c8 g l),f8 S,.int a,.dict (p7 (λx=>iD (toA m a (pre++[s]) x)) (ddE ((pre++[s]).map λs=>(stp m s a).1))),.int s,.int (stp m s a).1,.int (stp m s a).2],?_,?_,_,_,_,rfl⟩
     ·show a3P 4 false (b7 6) (b7 7) [.list (m.map rwD),.dict (c8 g l),f8 S,.int a,.dict (p7 (λx=>iD (toA m a pre x)) (P6 (stp m s a).1 (ddE (pre.map λs=>(stp m s a).1)))),.int s,.int (stp m s a).1,.int (stp m s a).2]=_;rw[b5l (kt:=false) (k:=.int (stp m s a).1) (d:=.int (stp m s a).2) (es:=(toA m a pre (stp m s a).1).map .int) rfl rfl rfl (dKey_i _) qw (by rw[ar];lia)];have e2:=a6w (g:=λx=>iD (toA m a pre x)) (h:=λx=>iD (toA m a (pre++[s]) x)) ko (λy hy=>by
       show iD (toA m a (pre++[s]) y)=iD (toA m a pre y);rw[a6C,aI λz=>hy z.symm])
      rw[aT,show [s].map (λs=>(stp m s a).1)=[(stp m s a).1] from rfl,a0F,←e2,a6C,aB rfl];unfold iD;rw[aT];rfl
     ·rw[a4l,aR c,hf];rfl) with⟨ρ',g1,hf,x,y,z,rfl⟩|⟨r,g1,rfl,hf⟩
 ·rw[g1,hf];walk_at "ev";have oH:(S.map λs=>stp m s a).Nodup:=aN hf;have hk:iDk (b7 4) [.list (m.map rwD),.dict (c8 g l),f8 S,.int a,.dict (p7 (λx=>iD (toA m a S x)) (ddE (S.map λs=>(stp m s a).1))),x,y,z]=el ((ddE (S.map λs=>(stp m s a).1)).map .int):=by
   show (if K3 ((p7 (λx=>iD (toA m a S x)) (ddE (S.map λs=>(stp m s a).1))).map (·.1)) then p4 else el ((p7 (λx=>iD (toA m a S x)) (ddE (S.map λs=>(stp m s a).1))).map (·.1)))=_;rw[a4j,aI];cases ddE (S.map λs=>(stp m s a).1)<;>exact aQ
  rw[a0X (ds:=(ddE (S.map λs=>(stp m s a).1)).map .int) hk (w8 _)];walk_at "ev";rcases W4 (enc:=ay) (set:=x9 6) (xs:=ddE (S.map λs=>(stp m s a).1)) (g:=(sIf (tB (e2 (v9 false true) (w6 (a3K (e2 (X0 false) (b7 4) (b7 6)))) (b7 1))) (n5 (eC (.bool false))) q8)) (ρ:=[.list (m.map rwD),.dict (c8 g l),f8 S,.int a,.dict (p7 (λx=>iD (toA m a S x)) (ddE (S.map λs=>(stp m s a).1))),x,y,z])
   (λpre ρ=>(∀v∈pre,prt m a S v∉l)∧∃y,ρ=[.list (m.map rwD),.dict (c8 g l),f8 S,.int a,.dict (p7 (λx=>iD (toA m a S x)) (ddE (S.map λs=>(stp m s a).1))),x,y,z]) (λr=>r=.bool false∧∃v∈ddE (S.map λs=>(stp m s a).1),prt m a S v∈l) ⟨λv hv=>(nomatch hv),_,rfl⟩ (by
    rintro pre v post e ρ ⟨hv,y,rfl⟩;have zU:v∈ddE (S.map λs=>(stp m s a).1):=by rw[e];simp
    have zY:=b3o (m:=m) (a:=a) (S:=S) (x:=v);refine⟨[.list (m.map rwD),.dict (c8 g l),f8 S,.int a,.dict (p7 (λx=>iD (toA m a S x)) (ddE (S.map λs=>(stp m s a).1))),x,.int v,z],rfl,?_⟩;have ht:tB (e2 (v9 false true) (w6 (a3K (e2 (X0 false) (b7 4) (b7 6)))) (b7 1)) [.list (m.map rwD),.dict (c8 g l),f8 S,.int a,.dict (p7 (λx=>iD (toA m a S x)) (ddE (S.map λs=>(stp m s a).1))),x,.int v,z]=el (decide (prt m a S v∈l)):=by
     walk_at "ev";rw[a0Y,b5m (ns:=toA m a S v) (by walk_at "ev";exact b3f zU) (by lia),b5d (a7W oH),O9];walk_at "ev";rw[show v9 false true (.tuple ((a3d (toA m a S v)).map .int)) (.dict (c8 g l))=_ from a1F (a:=prt m a S v),lG];rfl
    rw[a0i,ht];by_cases c:prt m a S v∈l
    ·rw[aH c];exact .inr ⟨_,rfl,rfl,v,zU,c⟩
    ·rw[aR c];exact .inl ⟨_,rfl,λu hu=>(aF.mp hu).elim (hv u) λq=>by rw[ao.mp q];exact c,_,rfl⟩) with⟨ρ',g2,hv,y,rfl⟩|⟨r,g2,rfl,v,xR,xQ⟩
  ·rw[g2];walk_at "ev";rw[bj.mpr λs hs=>by rw[aR (hv _ ((W7 _).mpr (aY.mpr ⟨s,hs,rfl⟩)))];rfl]
  ·rw[g2];walk_at "ev";obtain⟨s,hs,rfl⟩:=aY.mp ((W7 _).mp xR);rw[List.all_eq_false.mpr ⟨s,hs,by rw[aH xQ];decide⟩]
 ·rw[g1,hf];walk_at "ev"
end
end Prog
local macro_rules | `(tactic| walk_at "evm")=>`(tactic| first | (walk_at "ev";repeat (simp -implicitDefEqProofs (disch:=first | omega | assumption | decide) only [VS.a0P,VS.a0Q,VS.P5];try walk_at "ev")) | (simp -implicitDefEqProofs (disch:=first | omega | assumption | decide) only [VS.a0P,VS.a0Q,VS.P5];repeat (first | walk_at "ev" | simp -implicitDefEqProofs (disch:=first | omega | assumption | decide) only [VS.a0P,VS.a0Q,VS.P5])))
namespace Prog
open PySem L2 VS
local macro_rules | `(tactic| walk_at "ev1")=>`(tactic| simp -implicitDefEqProofs only [VS.C8,VS.a1n,VS.b5B,VS.b5A,VS.a8m,VS.b1z,VS.B1,mw,jA])
def N0:Int:=10^64
def b3p:1000<N0:=by decide
def a8a(ns:List Int)(k:Int)(h0:0≤k):∃c:Int,m_law_cell_at [.list (ns.map .int),.int k]=el (.int c):=by
 unfold m_law_cell_at;rw[O2 (by simp[VS.argsOk,imm])];unfold b_law_cell_at;walk_at "evm";by_cases c:k<(ns.length:Int)
 ·rw[aH c];walk_at "evm";exact⟨_,rfl⟩
 ·rw[aR c];walk_at "evm";exact⟨_,rfl⟩
def a6E(ns:List Int)(n:Nat)(h1:n≤1000):∃xs:List Int,m_law_cells [.list (ns.map .int),.int n]=el (.list (xs.map .int))∧xs.length=n∧∀x∈xs,0≤x:=by
 unfold m_law_cells;rw[O2 (by simp[VS.argsOk,imm])];unfold b_law_cells;walk_at "evm";rw[a6Z (n:=n) (by walk_at "evm") (by lia) (by lia),bV];walk_at "evm";refine U1 (R:=λo=>∃xs:List Int,o=el (.list (xs.map .int))∧xs.length=n∧∀x∈xs,0≤x) (λρ=>∃(xs:List Int) (q:Int) (y z:D),xs.length=n∧(∀x∈xs,0≤x)∧ρ=[.list (ns.map .int),.int n,.list (xs.map .int),.int q,y,z]) ?_ ?_
 ·obtain⟨ρ',g1,xs,q,y,z,e1,e2,e3,rfl⟩:=L4 (n:=n) (set:=x9 4) (g:=(i4 (j8 5 (e2 u9 (eCl m_law_cell_at (b8 (b7 0) (b8 (b7 4) g8))) (e2 a4z (eC (.int 10)) (eC (.int 64))))) (i4 (j8 3 (e2 u9 (e2 l9 (e2 l9 (e2 l9 (e2 A3 (b7 3) (eC (.int 69621))) (e2 A3 (b7 5) (eC (.int 40014)))) (e2 A3 (b7 4) (b7 4))) (eC (.int 1))) (eC (.int 2147483563)))) (sIf (tB (e2 dLt (b7 4) (eCl y6 (b8 (b7 0) g8)))) (D6 2 (.l .i) q9 (b7 5)) (D6 2 (.l .i) q9 (b7 3)))))) (ρ:=[.list (ns.map .int),.int n,.list [],.int 48271,.none,.none])
   (λj ρ=>∃(xs:List Int) (q:Int) (y z:D),xs.length=j∧(∀x∈xs,0≤x)∧0≤q∧ρ=[.list (ns.map .int),.int n,.list (xs.map .int),.int q,y,z]) ⟨[],48271,_,_,rfl,λx hx=>(nomatch hx),by decide,rfl⟩ (by
    rintro j hj ρ ⟨xs,q,y,z,e1,e2,e3,rfl⟩;obtain⟨c,hc⟩:=a8a ns j (by lia);have hq:=dF (q*69621+c % N0*40014+(j:Int)*j+1) (show (2147483563:Int)≠0 by decide);have hp:=b3p;have wJ:=dF c (show N0≠0 by lia);have Bf:(10^(64:Int).toNat:Int)=N0:=by decide
    by_cases cl:(j:Int)<ns.length
    ·refine⟨_,[.list (ns.map .int),.int n,.list ((xs++[c % N0]).map .int),.int ((q*69621+c % N0*40014+(j:Int)*j+1) % 2147483563),.int j,.int (c % N0)],rfl,?_,xs++[c % N0],_,_,_,by rw[bg,e1];rfl,?_,hq,rfl⟩
     ·walk_at "evm";rw[hc,v_pow (i:=10) (j:=64) (by decide),Bf];generalize N0=T at hp;walk_at "evm";rw[aH cl];walk_at "evm";rw[Q9 (by rw[ar];lia),aT];rfl
     ·intro x hx;rcases aF.mp hx with z|z
      ·exact e2 x z
      ·rw[ao.mp z];exact wJ
    ·refine⟨_,[.list (ns.map .int),.int n,.list ((xs++[(q*69621+c % N0*40014+(j:Int)*j+1) % 2147483563]).map .int),.int ((q*69621+c % N0*40014+(j:Int)*j+1) % 2147483563),.int j,.int (c % N0)],rfl,?_,xs++[(q*69621+c % N0*40014+(j:Int)*j+1) % 2147483563],_,_,_,by rw[bg,e1];rfl,?_,hq,rfl⟩
     ·walk_at "evm";rw[hc,v_pow (i:=10) (j:=64) (by decide),Bf];generalize N0=T at hp;walk_at "evm";rw[aR cl];walk_at "evm";rw[Q9 (by rw[ar];lia),aT];rfl
     ·intro x hx;rcases aF.mp hx with z|z
      ·exact e2 x z
      ·rw[ao.mp z];exact hq)
  exact⟨_,g1,xs,q,y,z,e1,e2,rfl⟩
 ·rintro ρ ⟨xs,q,y,z,e1,e2,rfl⟩;walk_at "evm";exact⟨xs,rfl,e1,e2⟩
def a8W{xs:List Int}(h:∀x∈xs,0≤x)(i:Nat):0≤xs.getD i 0:=by
 rw[aM];cases e:xs[i]? with
 |none=>exact Int.le_refl _
 |some y=>exact h y (bo e)
def b3q:a4z (.int 10) (.int 60)=el (.int big):=by rw[v_pow (i:=10) (j:=60) (by decide)];rfl
local macro_rules | `(tactic| walk_at "evq")=>`(tactic| first | (walk_at "ev";repeat (simp -implicitDefEqProofs (disch:=first | omega | assumption | decide) only [Prog.b3q,VS.a0P,VS.a0Q,VS.P5];try walk_at "ev")) | (simp -implicitDefEqProofs (disch:=first | omega | assumption | decide) only [Prog.b3q,VS.a0P,VS.a0Q,VS.P5];repeat (first | walk_at "ev" | simp -implicitDefEqProofs (disch:=first | omega | assumption | decide) only [Prog.b3q,VS.a0P,VS.a0Q,VS.P5])))
def b0I(q:Int)(xs:List Int)(h:3≤xs.length):∃v:Int,m_law_answer [.int q,.list (xs.map .int)]=el (.int v):=by
 have EY:=b2N;unfold m_law_answer;rw[O2 (by simp[VS.argsOk,imm])];unfold b_law_answer;walk_at "evq";generalize decide (xs.getD (1:Int).toNat 0 / 5 % 4=1)=b1;cases b1 with
 |true=>
  walk_at "evq";exact⟨_,rfl⟩
 |false=>
  walk_at "evq";generalize decide (xs.getD (1:Int).toNat 0 / 5 % 4=2)=b2;cases b2 with
  |true=>
   walk_at "evq";exact⟨_,rfl⟩
  |false=>
   walk_at "evq";generalize decide (xs.getD (1:Int).toNat 0 / 5 % 4=3)=b3;cases b3 with
   |true=>
    walk_at "evq";exact⟨_,rfl⟩
   |false=>
    walk_at "evq";exact⟨_,rfl⟩
def b0J(xs:List Int)(n q:Nat)(h:3+n≤xs.length)(q1:1≤q)(qn:q≤n)(xE:n≤30)(hx:∀x∈xs,0≤x) :
  ∃rows:List Int,m_law_copied [.list (xs.map .int),.int n,.int q]=el (.list (rows.map .int))∧rows.length=n∧(∀r∈rows,0≤r∧r<(q:Int))∧∀c:Int,0≤c→c<q→c∈rows:=by
 unfold m_law_copied;rw[O2 (by simp[VS.argsOk,imm])];unfold b_law_copied;walk_at "evq";rw[a6Z (n:=n) (by walk_at "evq") (by lia) (by lia),bV];walk_at "evq"
 let o:Int:=xs.getD (0:Int).toNat 0 / 1000
 refine U1 (R:=λe=>∃rows:List Int,e=el (.list (rows.map .int))∧rows.length=n∧(∀r∈rows,0≤r∧r<(q:Int))∧∀c:Int,0≤c→c<q→c∈rows) (λρ=>∃(rows:List Int) (x:D),rows.length=n∧(∀r∈rows,0≤r∧r<(q:Int))∧(∀i:Nat,i<q→((i:Int)+o) % q∈rows)∧ρ=[.list (xs.map .int),.int n,.int q,.list (rows.map .int),x]) ?_ ?_
 ·obtain⟨ρ',h1,rows,x,h2,h3,h4,rfl⟩:=L4 (n:=n) (set:=x9 4) (g:=(sIf (tB (e2 dLt (b7 4) (b7 2))) (D6 3 (.l .i) q9 (e2 u9 (e2 l9 (b7 4) (e2 N5 (e2 D5 (b7 0) (eC (.int 0))) (eC (.int 1000)))) (b7 2))) (D6 3 (.l .i) q9 (e2 u9 (e2 D5 (b7 0) (e2 l9 (eC (.int 3)) (b7 4))) (b7 2))))) (ρ:=[.list (xs.map .int),.int n,.int q,.list [],.none])
   (λj ρ=>∃(rows:List Int) (x:D),rows.length=j∧(∀r∈rows,0≤r∧r<(q:Int))∧(∀i:Nat,i<q→i<j→((i:Int)+o) % q∈rows)∧ρ=[.list (xs.map .int),.int n,.int q,.list (rows.map .int),x])
   ⟨[],_,rfl,λr hr=>(nomatch hr),λi _ hi=>absurd hi (Gh _),rfl⟩ (by
    rintro j hj ρ ⟨rows,x,h2,h3,h4,rfl⟩;have put:∀v:Int,(j<q→v=((j:Int)+o) % q)→0≤v→v<(q:Int)→(sIf (tB (e2 dLt (b7 4) (b7 2))) (D6 3 (.l .i) q9 (e2 u9 (e2 l9 (b7 4) (e2 N5 (e2 D5 (b7 0) (eC (.int 0))) (eC (.int 1000)))) (b7 2))) (D6 3 (.l .i) q9 (e2 u9 (e2 D5 (b7 0) (e2 l9 (eC (.int 3)) (b7 4))) (b7 2)))) [.list (xs.map .int),.int n,.int q,.list (rows.map .int),.int j]=el (.nx [.list (xs.map .int),.int n,.int q,.list ((rows++[v]).map .int),.int j])→
      ∃ρ1 ρ2,x9 4 [.list (xs.map .int),.int n,.int q,.list (rows.map .int),x] (.int j)=el ρ1∧(sIf (tB (e2 dLt (b7 4) (b7 2))) (D6 3 (.l .i) q9 (e2 u9 (e2 l9 (b7 4) (e2 N5 (e2 D5 (b7 0) (eC (.int 0))) (eC (.int 1000)))) (b7 2))) (D6 3 (.l .i) q9 (e2 u9 (e2 D5 (b7 0) (e2 l9 (eC (.int 3)) (b7 4))) (b7 2)))) ρ1=el (.nx ρ2)∧∃(rows:List Int) (x:D),rows.length=j+1∧(∀r∈rows,0≤r∧r<(q:Int))∧(∀i:Nat,i<q→i<j+1→((i:Int)+o) % q∈rows)∧ρ2=[.list (xs.map .int),.int n,.int q,.list (rows.map .int),x]:=by
     intro v hv v0 v1 hg;refine⟨_,_,rfl,hg,rows++[v],_,by rw[bg,h2];rfl,λr hr=>?_,λi hi oF=>?_,rfl⟩
     ·rcases aF.mp hr with z|z
      ·exact h3 r z
      ·rw[ao.mp z];exact⟨v0,v1⟩
     ·rcases gC i j with z|z
      ·exact aL _ (h4 i hi z)
      ·have e:i=j:=by lia
       subst e;rw[←hv hi];simp
    by_cases c:(j:Int)<q
    ·refine put (((j:Int)+o) % q) (λ_=>rfl) (dF _ (by lia)) (ei _ (by lia)) ?_;walk_at "evq";rw[aH c];walk_at "evq";rw[Q9 (by rw[ar];lia),aT];rfl
    ·refine put (xs.getD (3+(j:Int)).toNat 0 % q) (λz=>by lia) (dF _ (by lia)) (ei _ (by lia)) ?_;walk_at "evq";rw[aR c];walk_at "evq";rw[Q9 (by rw[ar];lia),aT];rfl)
  exact⟨_,h1,rows,x,h2,h3,λi hi=>h4 i hi (by lia),rfl⟩
 ·rintro ρ ⟨rows,x,h2,h3,h4,rfl⟩;have zw:∀c:Int,0≤c→c<q→c∈rows:=λc c0 c1=>by
   have h:=h4 ((c-o) % q).toNat (by have:=ei (c-o) (show (0:Int)<q by lia);have:=dF (c-o) (show (q:Int)≠0 by lia);lia);rw[jc (dF (c-o) (by lia)),Int.emod_add_emod,Int.sub_add_cancel,Int.emod_eq_of_lt c0 c1]at h;exact h
  walk_at "evq";generalize decide (xs.getD (1:Int).toNat 0 / 20 % 2=1)=b;cases b with
  |false=>
   walk_at "evq";exact⟨rows,rfl,h2,h3,zw⟩
  |true=>
   walk_at "evq";show ∃r,a2n (thn (el (.nx [.list (xs.map .int),.int n,.int q,.list (rows.map .int).reverse,x])) _)=_∧_;walk_at "evq";refine⟨rows.reverse,by rw[Fg],by rw[xa];exact h2,λr hr=>h3 r (kj.mp hr),λc c0 c1=>kj.mpr (zw c c0 c1)⟩
def a8b(ns:List Int)(sm la Bd:Nat)(s1:1≤sm)(hB:Bd≤7)(s2:sm≤Bd)(l1:1≤la)(l2:la≤Bd):∃(m:m4) (k:Nat),m_law_machine [.list (ns.map .int),.int sm,.int la]=el (.list (m.map rwD))∧WF m k∧m.length≤Bd:=by
 unfold m_law_machine;rw[O2 (by simp[VS.argsOk,imm])];unfold b_law_machine;walk_at "evm";obtain⟨fi,vt,Fz,zF⟩:=a6E ns 3 (by lia);have yD:m_law_cells [.list (ns.map .int),.int 3]=el (.list (fi.map .int)):=vt;rw[yD];walk_at "evm";have f0:0≤fi.getD (0:Int).toNat 0:=a8W zF _;have f1:0≤fi.getD (1:Int).toNat 0:=a8W zF _;have q0:=dF (fi.getD (0:Int).toNat 0) (show (sm:Int)≠0 by lia);have q1:=ei (fi.getD (0:Int).toNat 0) (show (0:Int)<sm by lia);refine U1 (R:=λo=>∃(m:m4) (k:Nat),o=el (.list (m.map rwD))∧WF m k∧m.length≤Bd) (λρ=>∃n:Nat,1≤n∧n≤Bd∧ρ=[.list (ns.map .int),.int sm,.int la,.list (fi.map .int),.int n,.none,.none,.none,.none,.none,.none,.none,.none,.none,.none,.none]) ?_ ?_
 ·cases decide (fi.getD (0:Int).toNat 0 / (sm:Int) % 8=3) with
  |true=>
   have r0:=dF (fi.getD (0:Int).toNat 0 / (8*(sm:Int))) (show (la:Int)≠0 by lia);have r1:=ei (fi.getD (0:Int).toNat 0 / (8*(sm:Int))) (show (0:Int)<la by lia);refine⟨_,(by walk_at "evm";exact rfl),(1+fi.getD (0:Int).toNat 0 / (8*(sm:Int)) % la).toNat,by lia,by lia,?_⟩;rw[jc (by lia)]
  |false=>
   refine⟨_,(by walk_at "evm";exact rfl),(1+fi.getD (0:Int).toNat 0 % (sm:Int)).toNat,by lia,by lia,?_⟩;rw[jc (by lia)]
 rintro ρ ⟨n,n1,nB,rfl⟩;have xE:n≤30:=by lia
 walk_at "evm";obtain⟨k,hk,k1,k5⟩:∃k:Nat,1+fi.getD (1:Int).toNat 0 % 5=(k:Int)∧1≤k∧k≤5:=⟨(1+fi.getD (1:Int).toNat 0 % 5).toNat,by lia,by lia,by lia⟩;rw[hk];refine U1 (R:=λo=>∃(m:m4) (k:Nat),o=el (.list (m.map rwD))∧WF m k∧m.length≤Bd) (λρ=>∃q:Nat,1≤q∧q≤n∧ρ=[.list (ns.map .int),.int sm,.int la,.list (fi.map .int),.int n,.int k,.int q,.none,.none,.none,.none,.none,.none,.none,.none,.none]) ?_ ?_
 ·cases decide (fi.getD (2:Int).toNat 0 % 4=3) with
  |true=>
   have r0:=dF (fi.getD (2:Int).toNat 0 / 4) (show (n:Int)≠0 by lia);have r1:=ei (fi.getD (2:Int).toNat 0 / 4) (show (0:Int)<n by lia);refine⟨_,(by walk_at "evm";exact rfl),(1+fi.getD (2:Int).toNat 0 / 4 % n).toNat,by lia,by lia,?_⟩;rw[jc (by lia)]
  |false=>
   exact⟨_,(by walk_at "evm"),n,n1,aD _,rfl⟩
 rintro ρ ⟨q,BS,qn,rfl⟩;walk_at "evm";have FH:n*k≤30*5:=Nat.mul_le_mul xE k5;obtain⟨xs,sI,Cp,BY⟩:=a6E ns (3+n+2*n*k) (by rw[Nat.mul_assoc];lia);have ec:(3+(n:Int)+2*(n:Int)*(k:Int))=((3+n+2*n*k:Nat):Int):=by rw[oP,oP,kJ,kJ];rfl
 rw[ec,sI];have en:(2:Int)*(n:Int)*(k:Int)=(n:Int)*k+(n:Int)*k:=by rw[Int.mul_assoc,Int.two_mul]
 have Ao:(xs.length:Int)=3+n+((n:Int)*k+(n:Int)*k):=by rw[Cp,←ec,en]
 have Df:0≤(n:Int)*(k:Int):=Int.mul_nonneg (by lia) (by lia);walk_at "evm";obtain⟨rows,u_,zM,uI,uF⟩:=b0J xs n q (by lia) BS qn xE BY;rw[u_];walk_at "evm";rw[a6Z (n:=n) (by walk_at "evm") (by lia) (by lia),bV];walk_at "evm";have EY:=b2N;have row:∀s:Nat,s<n→∀(tab:D) (y z u v:D),∃(r:List (Int×Int)) (x' y' z' u':D),r.length=k∧(∀p∈r,0≤p.2∧p.2<(n:Int))∧
   (E1 (iR (b7 5)) (x9 12) (i4 (j8 13 (e2 u8 (b7 7) (e2 l9 (e2 l9 (e2 l9 (eC (.int 3)) (b7 4)) (e2 A3 (e2 u8 (b7 8) (b7 10)) (b7 5))) (b7 12)))) (i4 (j8 14 (l0 (iR (b7 4)) [6,8,13] pt1 (tB (e2 dEq (e2 u8 (b7 2) (b7 0)) (e2 u9 (b7 3) (b7 1)))) (b7 0))) (i4 (j8 15 (e2 u8 (b7 7) (e2 l9 (e2 l9 (e2 l9 (e2 l9 (eC (.int 3)) (b7 4)) (e2 A3 (b7 4) (b7 5))) (e2 A3 (b7 10) (b7 5))) (b7 12)))) (D6 11 (.l .i) q9 (N7 (b8 (eCl m_law_answer (b8 (e2 N5 (b7 13) (b7 6)) (b8 (b7 7) g8))) (b8 (e2 u8 (b7 14) (e2 u9 (b7 15) (eCl y6 (b8 (b7 14) g8)))) g8)))))))) [.list (ns.map .int),.int sm,.int la,.list (fi.map .int),.int n,.int k,.int q,.list (xs.map .int),.list (rows.map .int),tab,.int s,.list [],y,z,u,v]=el (.nx [.list (ns.map .int),.int sm,.int la,.list (fi.map .int),.int n,.int k,.int q,.list (xs.map .int),.list (rows.map .int),tab,.int s,rwD r,x',y',z',u']):=by
  intro s hs tab y z u v;walk_at "evm";rw[a6Z (n:=k) (by walk_at "evm") (by lia) (by lia),bV];walk_at "evm";obtain⟨ρ',h1,r,x',y',z',u',h2,h3,rfl⟩:=L4 (n:=k) (set:=x9 12) (g:=(i4 (j8 13 (e2 u8 (b7 7) (e2 l9 (e2 l9 (e2 l9 (eC (.int 3)) (b7 4)) (e2 A3 (e2 u8 (b7 8) (b7 10)) (b7 5))) (b7 12)))) (i4 (j8 14 (l0 (iR (b7 4)) [6,8,13] pt1 (tB (e2 dEq (e2 u8 (b7 2) (b7 0)) (e2 u9 (b7 3) (b7 1)))) (b7 0))) (i4 (j8 15 (e2 u8 (b7 7) (e2 l9 (e2 l9 (e2 l9 (e2 l9 (eC (.int 3)) (b7 4)) (e2 A3 (b7 4) (b7 5))) (e2 A3 (b7 10) (b7 5))) (b7 12)))) (D6 11 (.l .i) q9 (N7 (b8 (eCl m_law_answer (b8 (e2 N5 (b7 13) (b7 6)) (b8 (b7 7) g8))) (b8 (e2 u8 (b7 14) (e2 u9 (b7 15) (eCl y6 (b8 (b7 14) g8)))) g8))))))))
   (ρ:=[.list (ns.map .int),.int sm,.int la,.list (fi.map .int),.int n,.int k,.int q,.list (xs.map .int),.list (rows.map .int),tab,.int s,.list [],y,z,u,v])
   (λj ρ=>∃(r:List (Int×Int)) (x' y' z' u':D),r.length=j∧(∀p∈r,0≤p.2∧p.2<(n:Int))∧ρ=[.list (ns.map .int),.int sm,.int la,.list (fi.map .int),.int n,.int k,.int q,.list (xs.map .int),.list (rows.map .int),tab,.int s,rwD r,x',y',z',u'])
   ⟨[],y,z,u,v,rfl,λp hp=>(nomatch hp),rfl⟩ (by
    rintro j hj ρ ⟨r,x',y',z',u',hr,hp,rfl⟩;have bound:∀i:Int,0≤i→i<n→0≤i*(k:Int)∧i*(k:Int)+j<(n:Int)*k:=λi i0 i1=>by
     refine⟨Int.mul_nonneg i0 (by lia),?_⟩;have h1:(i.toNat+1)*k≤n*k:=Nat.mul_le_mul_right k (by lia);have h2:i.toNat*k+j<n*k:=by rw[Nat.add_mul,Nat.one_mul]at h1;lia
     have h3:((i.toNat:Nat):Int)=i:=by lia
     have h4:((i.toNat*k+j:Nat):Int)<((n*k:Nat):Int):=by exact_mod_cast h2
     rw[oP,kJ,kJ,h3]at h4;exact h4
    have Ae:0≤rows.getD s 0∧rows.getD s 0<(q:Int):=by
     have hm:rows.getD s 0∈rows:=b0y (by lia);exact uI _ hm
    obtain⟨b0,b1⟩:=bound (rows.getD s 0) Ae.1 (by lia);obtain⟨d0,d1⟩:=bound s (by lia) (by lia);have Au:e2 u8 (b7 8) (b7 10) [.list (ns.map .int),.int sm,.int la,.list (fi.map .int),.int n,.int k,.int q,.list (xs.map .int),.list (rows.map .int),tab,.int s,rwD r,.int j,y',z',u']=el (.int (rows.getD s 0)):=by
     walk_at "evm";rw[bV]
    generalize FD:rows.getD s 0=rr at Ae b0 b1 Au
    let cell:Int:=xs.getD (3+(n:Int)+rr*k+j).toNat 0
    have ma:e2 u8 (b7 7) (e2 l9 (e2 l9 (e2 l9 (eC (.int 3)) (b7 4)) (e2 A3 (e2 u8 (b7 8) (b7 10)) (b7 5))) (b7 12)) [.list (ns.map .int),.int sm,.int la,.list (fi.map .int),.int n,.int k,.int q,.list (xs.map .int),.list (rows.map .int),tab,.int s,rwD r,.int j,y',z',u']=el (.int cell):=by
     rw[v_2,v_2,v_2,v_2,v_2,Au];walk_at "evm";rfl
    have Dn:=dF cell (show (q:Int)≠0 by lia);have sV:=ei cell (show (0:Int)<q by lia)
    let room:List Nat:=(aX n).filter λ(t:Nat)=>decide (rows.getD t 0=cell % q)
    have va:(l0 (iR (b7 4)) [6,8,13] pt1 (tB (e2 dEq (e2 u8 (b7 2) (b7 0)) (e2 u9 (b7 3) (b7 1)))) (b7 0)) [.list (ns.map .int),.int sm,.int la,.list (fi.map .int),.int n,.int k,.int q,.list (xs.map .int),.list (rows.map .int),tab,.int s,rwD r,.int j,.int cell,z',u']=el (.list (room.map λ(t:Nat)=>ay t)):=by
     refine a8O (n:=n) (λ(t:Nat)=>decide (rows.getD t 0=cell % q)) (λt=>.int t) (by rw[a6Z (n:=n) (by walk_at "evm") (by lia) (by lia)];rfl) (by lia) (λt ht=>⟨?_,λ_=>rfl⟩);show tB _ [.int t,.int q,.list (rows.map .int),.int cell]=_;walk_at "evm";rw[bV]
    have hl:0<room.length:=by
     obtain⟨t,ht⟩:=bM.mp (uF (cell % q) Dn sV);have zY:=(aP.mp ht).1;have:t∈room:=by
      show t∈(aX n).filter _;rw[bu];refine⟨b_.mpr (by lia),aH ?_⟩;rw[aM,ht];rfl
     exact tQ this
    let pick:Int:=xs.getD (3+(n:Int)+(n:Int)*k+(s:Int)*k+j).toNat 0
    have vb:e2 u8 (b7 7) (e2 l9 (e2 l9 (e2 l9 (e2 l9 (eC (.int 3)) (b7 4)) (e2 A3 (b7 4) (b7 5))) (e2 A3 (b7 10) (b7 5))) (b7 12)) [.list (ns.map .int),.int sm,.int la,.list (fi.map .int),.int n,.int k,.int q,.list (xs.map .int),.list (rows.map .int),tab,.int s,rwD r,.int j,.int cell,.list (room.map λ(t:Nat)=>ay t),u']=el (.int pick):=by
     walk_at "evm";rfl
    obtain⟨v,hv⟩:=b0I (cell / q) xs (by lia);have g0:=dF pick (show (room.length:Int)≠0 by lia);have g1:=ei pick (show (0:Int)<room.length by lia);obtain⟨t,CO,uc,xS⟩:∃t:Int,0≤t∧t<(n:Int)∧L2.atI (room.map λ(t:Nat)=>ay t) (pick % (room.length:Int))=el (.int t):=by
     rw[a4N g0 (by rw[ar];exact g1),iG];have ko:room[(pick % (room.length:Int)).toNat]'(by lia)∈(aX n).filter λ(t:Nat)=>decide (rows.getD t 0=cell % q):=cG _
     have:=b_.mp (bu.mp ko).1;exact⟨_,by lia,by lia,rfl⟩
    have hb:(i4 (j8 13 (e2 u8 (b7 7) (e2 l9 (e2 l9 (e2 l9 (eC (.int 3)) (b7 4)) (e2 A3 (e2 u8 (b7 8) (b7 10)) (b7 5))) (b7 12)))) (i4 (j8 14 (l0 (iR (b7 4)) [6,8,13] pt1 (tB (e2 dEq (e2 u8 (b7 2) (b7 0)) (e2 u9 (b7 3) (b7 1)))) (b7 0))) (i4 (j8 15 (e2 u8 (b7 7) (e2 l9 (e2 l9 (e2 l9 (e2 l9 (eC (.int 3)) (b7 4)) (e2 A3 (b7 4) (b7 5))) (e2 A3 (b7 10) (b7 5))) (b7 12)))) (D6 11 (.l .i) q9 (N7 (b8 (eCl m_law_answer (b8 (e2 N5 (b7 13) (b7 6)) (b8 (b7 7) g8))) (b8 (e2 u8 (b7 14) (e2 u9 (b7 15) (eCl y6 (b8 (b7 14) g8)))) g8))))))) [.list (ns.map .int),.int sm,.int la,.list (fi.map .int),.int n,.int k,.int q,.list (xs.map .int),.list (rows.map .int),tab,.int s,rwD r,.int j,y',z',u']=el (.nx [.list (ns.map .int),.int sm,.int la,.list (fi.map .int),.int n,.int k,.int q,.list (xs.map .int),.list (rows.map .int),tab,.int s,rwD (r++[(v,t)]),.int j,.int cell,.list (room.map λ(t:Nat)=>ay t),.int pick]):=by
     rw[C8,a1n,ma];show thn (el (.nx [.list (ns.map .int),.int sm,.int la,.list (fi.map .int),.int n,.int k,.int q,.list (xs.map .int),.list (rows.map .int),tab,.int s,rwD r,.int j,.int cell,z',u'])) _=_;rw[B1,C8,a1n,va];show thn (el (.nx [.list (ns.map .int),.int sm,.int la,.list (fi.map .int),.int n,.int k,.int q,.list (xs.map .int),.list (rows.map .int),tab,.int s,rwD r,.int j,.int cell,.list (room.map λ(t:Nat)=>ay t),u'])) _=_;rw[B1,C8,a1n,vb];show thn (el (.nx [.list (ns.map .int),.int sm,.int la,.list (fi.map .int),.int n,.int k,.int q,.list (xs.map .int),.list (rows.map .int),tab,.int s,rwD r,.int j,.int cell,.list (room.map λ(t:Nat)=>ay t),.int pick])) _=_;rw[B1];generalize FQ:cell=cc at hv;generalize FF:pick=pp at xS;generalize FG:room=oo at xS hl;walk_at "evm";rw[hv,xS];walk_at "evm";show a9v 11 (.list (r.map stD)) _ _=_;rw[Q9 (by rw[ar];lia)];unfold rwD;rw[aT];rfl
    refine⟨_,_,rfl,hb,r++[(v,t)],_,_,_,_,by rw[bg,hr];rfl,?_,rfl⟩;intro p rX;rcases aF.mp rX with z|z
    ·exact hp p z
    ·rw[ao.mp z];exact⟨CO,uc⟩)
  exact⟨r,x',y',z',u',h2,h3,h1⟩
 refine U1 (R:=λo=>∃(m:m4) (k:Nat),o=el (.list (m.map rwD))∧WF m k∧m.length≤Bd) (λρ=>∃(m:m4) (a b c d e f:D),m.length=n∧(∀r∈m,r.length=k∧∀p∈r,0≤p.2∧p.2<(n:Int))∧ρ=[.list (ns.map .int),.int sm,.int la,.list (fi.map .int),.int n,.int k,.int q,.list (xs.map .int),.list (rows.map .int),.list (m.map rwD),a,b,c,d,e,f]) ?_ ?_
 ·obtain⟨ρ',h1,m,a,b,c,d,e,f,h2,h3,rfl⟩:=L4 (n:=n) (set:=x9 10) (g:=(i4 (j8 11 (J1 g8)) (i4 (E1 (iR (b7 5)) (x9 12) (i4 (j8 13 (e2 u8 (b7 7) (e2 l9 (e2 l9 (e2 l9 (eC (.int 3)) (b7 4)) (e2 A3 (e2 u8 (b7 8) (b7 10)) (b7 5))) (b7 12)))) (i4 (j8 14 (l0 (iR (b7 4)) [6,8,13] pt1 (tB (e2 dEq (e2 u8 (b7 2) (b7 0)) (e2 u9 (b7 3) (b7 1)))) (b7 0))) (i4 (j8 15 (e2 u8 (b7 7) (e2 l9 (e2 l9 (e2 l9 (e2 l9 (eC (.int 3)) (b7 4)) (e2 A3 (b7 4) (b7 5))) (e2 A3 (b7 10) (b7 5))) (b7 12)))) (D6 11 (.l .i) q9 (N7 (b8 (eCl m_law_answer (b8 (e2 N5 (b7 13) (b7 6)) (b8 (b7 7) g8))) (b8 (e2 u8 (b7 14) (e2 u9 (b7 15) (eCl y6 (b8 (b7 14) g8)))) g8)))))))) (D6 9 (.l (.l .i)) q9 (b7 11)))))
   (ρ:=[.list (ns.map .int),.int sm,.int la,.list (fi.map .int),.int n,.int k,.int q,.list (xs.map .int),.list (rows.map .int),.list [],.none,.none,.none,.none,.none,.none])
   (λj ρ=>∃(m:m4) (a b c d e f:D),m.length=j∧(∀r∈m,r.length=k∧∀p∈r,0≤p.2∧p.2<(n:Int))∧ρ=[.list (ns.map .int),.int sm,.int la,.list (fi.map .int),.int n,.int k,.int q,.list (xs.map .int),.list (rows.map .int),.list (m.map rwD),a,b,c,d,e,f])
   ⟨[],_,_,_,_,_,_,rfl,λp hp=>(nomatch hp),rfl⟩ (by
    rintro j hj ρ ⟨m,a,b,c,d,e,f,h2,h3,rfl⟩;obtain⟨r,x',y',z',u',r1,r2,r3⟩:=row j hj (.list (m.map rwD)) c d e f;refine⟨_,[.list (ns.map .int),.int sm,.int la,.list (fi.map .int),.int n,.int k,.int q,.list (xs.map .int),.list (rows.map .int),.list ((m++[r]).map rwD),.int j,rwD r,x',y',z',u'],rfl,?_,m++[r],_,_,_,_,_,_,by rw[bg,h2];rfl,?_,rfl⟩
    ·show (i4 (j8 11 (J1 g8)) (i4 (E1 (iR (b7 5)) (x9 12) (i4 (j8 13 (e2 u8 (b7 7) (e2 l9 (e2 l9 (e2 l9 (eC (.int 3)) (b7 4)) (e2 A3 (e2 u8 (b7 8) (b7 10)) (b7 5))) (b7 12)))) (i4 (j8 14 (l0 (iR (b7 4)) [6,8,13] pt1 (tB (e2 dEq (e2 u8 (b7 2) (b7 0)) (e2 u9 (b7 3) (b7 1)))) (b7 0))) (i4 (j8 15 (e2 u8 (b7 7) (e2 l9 (e2 l9 (e2 l9 (e2 l9 (eC (.int 3)) (b7 4)) (e2 A3 (b7 4) (b7 5))) (e2 A3 (b7 10) (b7 5))) (b7 12)))) (D6 11 (.l .i) q9 (N7 (b8 (eCl m_law_answer (b8 (e2 N5 (b7 13) (b7 6)) (b8 (b7 7) g8))) (b8 (e2 u8 (b7 14) (e2 u9 (b7 15) (eCl y6 (b8 (b7 14) g8)))) g8)))))))) (D6 9 (.l (.l .i)) q9 (b7 11)))) [.list (ns.map .int),.int sm,.int la,.list (fi.map .int),.int n,.int k,.int q,.list (xs.map .int),.list (rows.map .int),.list (m.map rwD),.int j,b,c,d,e,f]=_;rw[C8,a1n];show thn (el (.nx [.list (ns.map .int),.int sm,.int la,.list (fi.map .int),.int n,.int k,.int q,.list (xs.map .int),.list (rows.map .int),.list (m.map rwD),.int j,.list [],c,d,e,f])) _=_;rw[B1,C8,r3,B1];walk_at "evm";rw[Q9 (by rw[ar];lia)];walk_at "evm";rw[aT];rfl
    ·intro r' x_;rcases aF.mp x_ with z|z
     ·exact h3 r' z
     ·rw[ao.mp z];exact⟨r1,r2⟩)
  exact⟨_,h1,m,a,b,c,d,e,f,h2,h3,rfl⟩
 ·rintro ρ ⟨m,a,b,c,d,e,f,h2,h3,rfl⟩;walk_at "evm";exact⟨m,k,rfl,⟨by lia,by lia,k1,k5,λr hr=>(h3 r hr).1,λr hr p hp=>by rw[h2];exact (h3 r hr).2 p hp⟩,by lia⟩
end Prog
namespace VS
open PySem L2
def b0K{α:Type}{enc:α→D}{set:List D→D→Option (List D)}{g:EvS}{xs:List α}{ρ:List D}(I:List α→List D→Prop)(h0:I [] ρ)
  (step:∀pre x post,xs=pre++x::post→∀ρ,I pre ρ→∃ρ1 ρ2,set ρ (enc x)=el ρ1∧(g ρ1=el (.nx ρ2)∨g ρ1=el (.ct ρ2))∧I (pre++[x]) ρ2) :
  ∃ρ',O1 set g (xs.map enc) ρ=el (.nx ρ')∧I xs ρ':=by
 have key:∀(post pre:List α) (ρ:List D),xs=pre++post→I pre ρ→∃ρ',O1 set g (post.map enc) ρ=el (.nx ρ')∧I xs ρ':=by
  intro post
  induction post with
  |nil=>
   intro pre ρ e h;rw[bE]at e;subst e;exact⟨ρ,rfl,h⟩
  |cons x post ih=>
   intro pre ρ e h;obtain⟨ρ1,ρ2,h1,h2,h3⟩:=step pre x post e ρ h;obtain⟨ρ',h4,h5⟩:=ih (pre++[x]) ρ2 (by rw[e,bp];rfl) h3;refine⟨ρ',?_,h5⟩;show (set ρ (enc x)).bind _=_;rw[h1];show (g ρ1).bind _=_;rcases h2 with h2|h2
   ·rw[h2];exact h4
   ·rw[h2];exact h4
 exact key xs [] ρ rfl h0
end VS
namespace Prog
open PySem L2 VS
section
variable {m:m4}{k:Nat}(w:WF m k)(h5:m.length≤5){d:Nat}(nL:u6 [.list (m.map rwD)]=el (.dict (c8 (m5 m k) (kdS m k (sts m.length) d))))(rd:nwS m k (sts m.length) d=[])(hd:d≤26)
 {L:List (List Int)} (hL:∀S,S∈L↔SetK m S∧tb m k d S=false) (vL:L.Nodup) (wO:L.length≤31) {ns:List Int}
include w h5 nL rd hd hL vL wO
theorem b5n{S:List Int}(hS:SetK m S)(y z u:D):∃y' z' u':D,((i4 (sIf (W8 (tB (e2 dNe (e2 (N1 false) (eCl A8 (b8 (b7 2) (b8 (eI (L7 (b7 5))) g8))) (eC .none)) (e2 (v9 false true) (b7 5) (b7 4)))) (tB (e2 dNe (b7 2) (b7 1)))) (n5 (eC (.bool false))) q8) (i4 (j8 6 (l0 (iR (eCl y6 (b8 (e2 dIx (b7 1) (eC (.int 0))) g8))) [1,4,5] pt1 (tV (eCl m_law_free (b8 (b7 1) (b8 (b7 2) (b8 (b7 3) (b8 (b7 0) g8)))))) (b7 0))) (i4 (sIf (tAn (W8 (tB (e2 dEq (eCl y6 (b8 (b7 5) g8)) (eC (.int 1)))) (tB (e2 dNe (b7 6) (J1 g8)))) (tB (e2 (v9 false true) (b7 5) (b7 4)))) (n5 (eC (.bool false))) q8) (i4 (sIf (tB (e2 (v9 false true) (b7 5) (b7 4))) b1u q8) (E1 (iI (iT (b7 5))) (x9 7) (i4 (j8 8 (w6 (l0 (iI (iT (b7 5))) [7] pt1 (tB (e2 dNe (b7 0) (b7 1))) (b7 0)))) (sIf (tB (e2 (v9 false true) (b7 8) (b7 4))) (n5 (eC (.bool false))) q8))))))) [.list (ns.map .int),.list (m.map rwD),.list (m.map rwD),.list (L.map iD),.dict (c8 (λ_=>.bool true) L),f8 S,y,z,u]=el (.nx [.list (ns.map .int),.list (m.map rwD),.list (m.map rwD),.list (L.map iD),.dict (c8 (λ_=>.bool true) L),f8 S,y',z',u'])∨(i4 (sIf (W8 (tB (e2 dNe (e2 (N1 false) (eCl A8 (b8 (b7 2) (b8 (eI (L7 (b7 5))) g8))) (eC .none)) (e2 (v9 false true) (b7 5) (b7 4)))) (tB (e2 dNe (b7 2) (b7 1)))) (n5 (eC (.bool false))) q8) (i4 (j8 6 (l0 (iR (eCl y6 (b8 (e2 dIx (b7 1) (eC (.int 0))) g8))) [1,4,5] pt1 (tV (eCl m_law_free (b8 (b7 1) (b8 (b7 2) (b8 (b7 3) (b8 (b7 0) g8)))))) (b7 0))) (i4 (sIf (tAn (W8 (tB (e2 dEq (eCl y6 (b8 (b7 5) g8)) (eC (.int 1)))) (tB (e2 dNe (b7 6) (J1 g8)))) (tB (e2 (v9 false true) (b7 5) (b7 4)))) (n5 (eC (.bool false))) q8) (i4 (sIf (tB (e2 (v9 false true) (b7 5) (b7 4))) b1u q8) (E1 (iI (iT (b7 5))) (x9 7) (i4 (j8 8 (w6 (l0 (iI (iT (b7 5))) [7] pt1 (tB (e2 dNe (b7 0) (b7 1))) (b7 0)))) (sIf (tB (e2 (v9 false true) (b7 8) (b7 4))) (n5 (eC (.bool false))) q8))))))) [.list (ns.map .int),.list (m.map rwD),.list (m.map rwD),.list (L.map iD),.dict (c8 (λ_=>.bool true) L),f8 S,y,z,u]=el (.ct [.list (ns.map .int),.list (m.map rwD),.list (m.map rwD),.list (L.map iD),.dict (c8 (λ_=>.bool true) L),f8 S,y',z',u'])):=by
 have kW:=SetK.le5 w h5 hS;have yw:=w.k5;have jW:(S∈L)↔tb m k d S=false:=(hL S).trans ⟨λq=>q.2,λq=>⟨hS,q⟩⟩;have vk:decide (S∈kdS m k (sts m.length) d)=tb m k d S:=by
  rw[dG,bU,B9];exact⟨λq=>q.2,λq=>⟨(F8 h5).mpr hS,q⟩⟩
 have Ea:decide (S∈L)=!tb m k d S:=by
  rw[dG,bU,jW,fF]
 obtain⟨t,uc,Aa⟩:=a6B w h5 (show d≤31 by lia) nL hd hS;rw[vk]at Aa;rw[←a7Z (by lia) hS]at uc;have hlen:y6 [f8 S]=el (.int S.length):=by show el (ay ((S.map ay).length:Nat))=_;rw[ar]
 let fr:Nat→Bool:=λa=>A9 m a S&&S.all λs=>!decide (prt m a S (stp m s a).1∈L)
 let frs:List Nat:=(aX k).filter fr
 have h1:(sIf (W8 (tB (e2 dNe (e2 (N1 false) (eCl A8 (b8 (b7 2) (b8 (eI (L7 (b7 5))) g8))) (eC .none)) (e2 (v9 false true) (b7 5) (b7 4)))) (tB (e2 dNe (b7 2) (b7 1)))) (n5 (eC (.bool false))) q8) [.list (ns.map .int),.list (m.map rwD),.list (m.map rwD),.list (L.map iD),.dict (c8 (λ_=>.bool true) L),f8 S,y,z,u]=el (.nx [.list (ns.map .int),.list (m.map rwD),.list (m.map rwD),.list (L.map iD),.dict (c8 (λ_=>.bool true) L),f8 S,y,z,u]):=by
  rw[a0i];have:(W8 (tB (e2 dNe (e2 (N1 false) (eCl A8 (b8 (b7 2) (b8 (eI (L7 (b7 5))) g8))) (eC .none)) (e2 (v9 false true) (b7 5) (b7 4)))) (tB (e2 dNe (b7 2) (b7 1)))) [.list (ns.map .int),.list (m.map rwD),.list (m.map rwD),.list (L.map iD),.dict (c8 (λ_=>.bool true) L),f8 S,y,z,u]=el false:=by
   walk_at "ev";rw[show lIs (b0v (el (f8 S)))=el (iD S) from a8K];walk_at "ev";rw[uc];walk_at "ev";rw[a1F,Aa,Ea];walk_at "ev";rw[b9B,show ((false != !tb m k d S)!=(false != !tb m k d S))=false by cases tb m k d S<;>rfl];walk_at "ev";rw[neM];walk_at "ev"
  rw[this];rfl
 have h2:j8 6 (l0 (iR (eCl y6 (b8 (e2 dIx (b7 1) (eC (.int 0))) g8))) [1,4,5] pt1 (tV (eCl m_law_free (b8 (b7 1) (b8 (b7 2) (b8 (b7 3) (b8 (b7 0) g8)))))) (b7 0)) [.list (ns.map .int),.list (m.map rwD),.list (m.map rwD),.list (L.map iD),.dict (c8 (λ_=>.bool true) L),f8 S,y,z,u]=el (.nx [.list (ns.map .int),.list (m.map rwD),.list (m.map rwD),.list (L.map iD),.dict (c8 (λ_=>.bool true) L),f8 S,.list (frs.map λ(a:Nat)=>ay a),z,u]):=by
  rw[a1n,a8O (n:=k) fr (λa=>.int a) ?_ (by lia) λa ha=>⟨?_,λ_=>rfl⟩]
  ·rfl
  ·have hp:=w.pos;rw[a6Z (n:=k) (by walk_at "ev";rw[b4U (by lia) (by lia)];walk_at "ev";rw[w.row (by lia) (by lia)]) (by lia) (by lia),bV]
  ·show tV (eCl m_law_free (b8 (b7 1) (b8 (b7 2) (b8 (b7 3) (b8 (b7 0) g8))))) [.int a,.list (m.map rwD),.dict (c8 (λ_=>.bool true) L),f8 S]=_;walk_at "ev";rw[a6D w ha hS (by lia)];walk_at "ev";rfl
 have oG:S∈L→frs=[]:=λq=>by
  refine fU.mpr λa ha c=>?_
  have sf:=b_.mp ha;have c':(A9 m a S&&S.all λs=>!decide (prt m a S (stp m s a).1∈L))=true:=c;rw[av]at c';have:tb m k d S=true:=b5e rd ((F8 h5).mpr hS) sf (by
   unfold tst;rw[av];refine⟨c'.1,bj.mpr λs hs=>?_⟩;have c3:=bj.mp c'.2 s hs;rw[fF,hX,hL]at c3;cases x:tb m k d (prt m a S (stp m s a).1) with
   |true=>rfl
   |false=>exact absurd ⟨SetK.prt w hS sf hs,x⟩ c3)
  rw[jW.mp q]at this;cases this
 have qu:S∈L→S.length≠1:=λq z=>by
  have:=a4i (show tb m k 0 S=true from aH z) (bI d);rw[jW.mp q]at this;cases this
 have gj:dNe (.list (frs.map λ(a:Nat)=>ay a)) (.list [])=el (.bool !decide (frs=[])):=by
  have e1:=b9z (xs:=frs.map λ(a:Nat)=>(a:Int)) (ys:=[]);rw[bO]at e1;have vR:decide ((frs.map λ(a:Nat)=>(a:Int))=[])=decide (frs=[]):=by
   cases frs<;>rfl
  rw[vR]at e1;exact e1
 have h3:(sIf (tAn (W8 (tB (e2 dEq (eCl y6 (b8 (b7 5) g8)) (eC (.int 1)))) (tB (e2 dNe (b7 6) (J1 g8)))) (tB (e2 (v9 false true) (b7 5) (b7 4)))) (n5 (eC (.bool false))) q8) [.list (ns.map .int),.list (m.map rwD),.list (m.map rwD),.list (L.map iD),.dict (c8 (λ_=>.bool true) L),f8 S,.list (frs.map λ(a:Nat)=>ay a),z,u]=el (.nx [.list (ns.map .int),.list (m.map rwD),.list (m.map rwD),.list (L.map iD),.dict (c8 (λ_=>.bool true) L),f8 S,.list (frs.map λ(a:Nat)=>ay a),z,u]):=by
  rw[a0i];have:(tAn (W8 (tB (e2 dEq (eCl y6 (b8 (b7 5) g8)) (eC (.int 1)))) (tB (e2 dNe (b7 6) (J1 g8)))) (tB (e2 (v9 false true) (b7 5) (b7 4)))) [.list (ns.map .int),.list (m.map rwD),.list (m.map rwD),.list (L.map iD),.dict (c8 (λ_=>.bool true) L),f8 S,.list (frs.map λ(a:Nat)=>ay a),z,u]=el false:=by
   walk_at "ev";rw[hlen];walk_at "ev";by_cases c:S∈L
   ·rw[aR (show ¬ (S.length:Int)=1 by have:=qu c;lia)];walk_at "ev";rw[gj,aH (oG c)];rfl
   ·have hc:tB (e2 (v9 false true) (b7 5) (b7 4)) [.list (ns.map .int),.list (m.map rwD),.list (m.map rwD),.list (L.map iD),.dict (c8 (λ_=>.bool true) L),f8 S,.list (frs.map λ(a:Nat)=>ay a),z,u]=el false:=by
     walk_at "ev";rw[a1F,aR c];rfl
    cases decide ((S.length:Int)=1) with
    |true=>exact hc
    |false=>
     walk_at "ev";rw[gj];cases decide (frs=[]) with
     |true=>rfl
     |false=>exact hc
  rw[this];rfl
 rw[C8,h1,B1,C8,h2,B1,C8,h3,B1,C8];have h4:tB (e2 (v9 false true) (b7 5) (b7 4)) [.list (ns.map .int),.list (m.map rwD),.list (m.map rwD),.list (L.map iD),.dict (c8 (λ_=>.bool true) L),f8 S,.list (frs.map λ(a:Nat)=>ay a),z,u]=el (decide (S∈L)):=by
  walk_at "ev";rw[a1F,lG];rfl
 rw[a0i,h4];by_cases c:S∈L
 ·rw[aH c];exact⟨_,_,_,.inr rfl⟩
 ·rw[aR c];have ht:tb m k d S=true:=by
   cases x:tb m k d S with
   |true=>rfl
   |false=>exact absurd (jW.mpr x) c
  show ∃y' z' u',((E1 (iI (iT (b7 5))) (x9 7) (i4 (j8 8 (w6 (l0 (iI (iT (b7 5))) [7] pt1 (tB (e2 dNe (b7 0) (b7 1))) (b7 0)))) (sIf (tB (e2 (v9 false true) (b7 8) (b7 4))) (n5 (eC (.bool false))) q8))) [.list (ns.map .int),.list (m.map rwD),.list (m.map rwD),.list (L.map iD),.dict (c8 (λ_=>.bool true) L),f8 S,.list (frs.map λ(a:Nat)=>ay a),z,u]=_∨_);rw[b5C,a0X (ds:=S.map .int) (b7T rfl) (w8 _)];obtain⟨ρ',g1,z',u',rfl⟩:=P0 (enc:=ay) (set:=x9 7) (xs:=S) (g:=(i4 (j8 8 (w6 (l0 (iI (iT (b7 5))) [7] pt1 (tB (e2 dNe (b7 0) (b7 1))) (b7 0)))) (sIf (tB (e2 (v9 false true) (b7 8) (b7 4))) (n5 (eC (.bool false))) q8))) (ρ:=[.list (ns.map .int),.list (m.map rwD),.list (m.map rwD),.list (L.map iD),.dict (c8 (λ_=>.bool true) L),f8 S,.list (frs.map λ(a:Nat)=>ay a),z,u])
   (λpre ρ=>∃z u,ρ=[.list (ns.map .int),.list (m.map rwD),.list (m.map rwD),.list (L.map iD),.dict (c8 (λ_=>.bool true) L),f8 S,.list (frs.map λ(a:Nat)=>ay a),z,u]) ⟨_,_,rfl⟩ (by
    rintro pre s post e ρ ⟨z,u,rfl⟩
    let R:List Int:=S.filter λt=>!decide (t=s)
    have hR:R∉L:=λq=>by
     have q':=(hL R).mp q;have:=a7X w d hS q'.1 (λx hx=>(bu.mp hx).1) ht;rw[q'.2]at this;cases this
    refine⟨_,[.list (ns.map .int),.list (m.map rwD),.list (m.map rwD),.list (L.map iD),.dict (c8 (λ_=>.bool true) L),f8 S,.list (frs.map λ(a:Nat)=>ay a),.int s,f8 R],rfl,?_,_,_,rfl⟩;show (i4 (j8 8 (w6 (l0 (iI (iT (b7 5))) [7] pt1 (tB (e2 dNe (b7 0) (b7 1))) (b7 0)))) (sIf (tB (e2 (v9 false true) (b7 8) (b7 4))) (n5 (eC (.bool false))) q8)) [.list (ns.map .int),.list (m.map rwD),.list (m.map rwD),.list (L.map iD),.dict (c8 (λ_=>.bool true) L),f8 S,.list (frs.map λ(a:Nat)=>ay a),.int s,u]=_;have e1:(l0 (iI (iT (b7 5))) [7] pt1 (tB (e2 dNe (b7 0) (b7 1))) (b7 0)) [.list (ns.map .int),.list (m.map rwD),.list (m.map rwD),.list (L.map iD),.dict (c8 (λ_=>.bool true) L),f8 S,.list (frs.map λ(a:Nat)=>ay a),.int s,u]=el (iD R):=by
     rw[a1S (enc:=ay) (xs:=S) (λt=>!decide (t=s)) ay (a0X (b7T rfl) (w8 _)) (by lia) λt _=>⟨_,rfl,?_,λ_=>rfl⟩];show tB (e2 dNe (b7 0) (b7 1)) [.int t,.int s]=_;walk_at "ev"
    have vR:j8 8 (w6 (l0 (iI (iT (b7 5))) [7] pt1 (tB (e2 dNe (b7 0) (b7 1))) (b7 0))) [.list (ns.map .int),.list (m.map rwD),.list (m.map rwD),.list (L.map iD),.dict (c8 (λ_=>.bool true) L),f8 S,.list (frs.map λ(a:Nat)=>ay a),.int s,u]=el (.nx [.list (ns.map .int),.list (m.map rwD),.list (m.map rwD),.list (L.map iD),.dict (c8 (λ_=>.bool true) L),f8 S,.list (frs.map λ(a:Nat)=>ay a),.int s,f8 R]):=by
     rw[a1n,a0Y,e1,O9];rfl
    rw[C8,vR,B1,a0i];have e3:tB (e2 (v9 false true) (b7 8) (b7 4)) [.list (ns.map .int),.list (m.map rwD),.list (m.map rwD),.list (L.map iD),.dict (c8 (λ_=>.bool true) L),f8 S,.list (frs.map λ(a:Nat)=>ay a),.int s,f8 R]=el false:=by
     walk_at "ev";rw[a1F,aR hR];rfl
    rw[e3];rfl)
  exact⟨_,_,_,.inl g1⟩
end
def law_true(ns:List Int)(_:ns.length≤63):m_law [.list (ns.map .int)]=el (.bool true):=by
 obtain⟨m,k,hm,w,h5⟩:=a8b ns 4 5 5 (by lia) (by lia) (by lia) (by lia) (by lia);have ud:m_law_machine [.list (ns.map .int),.int 4,.int 5]=el (.list (m.map rwD)):=hm;have si:=a5j m.length (by lia);obtain⟨d,nL,rd,hd⟩:=a3r w h5;obtain⟨L,wQ⟩:∃L,L=(X1 (sts m.length)).filter λS=>!decide (S∈kdS m k (sts m.length) d):=⟨_,rfl⟩
 have hL:∀S,S∈L↔SetK m S∧tb m k d S=false:=λS=>by
  rw[wQ,bu,(D0 _).mem_iff,F8 h5,fF,hX,B9,F8 h5]
  constructor
  ·rintro⟨q1,q2⟩;refine⟨q1,?_⟩;cases x:tb m k d S with
   |false=>rfl
   |true=>exact absurd ⟨q1,x⟩ q2
  ·rintro⟨q1,q2⟩;exact⟨q1,λq=>by rw[q2]at q;cases q.2⟩
 have vL:L.Nodup:=by rw[wQ];exact ((D0 _).nodup_iff.mpr (b3i h5)).filter _
 have wO:L.length≤31:=by
  rw[wQ];refine cw (dB _ _) ?_;rw[(D0 _).length_eq];exact si
 have qW:a0A [.list (m.map rwD)]=el (.list (L.map iD)):=by rw[wQ];exact b3l h5 nL
 unfold m_law;rw[O2 (by simp[VS.argsOk])];unfold b_law;walk_at "ev";rw[ud];walk_at "ev";rw[b7R (m:=m) (by walk_at "ev") (by have:=w.le;lia)];walk_at "ev";rw[qW];walk_at "ev";rw[show l0 (iL (b7 3)) [] pt1 (tNo (tV (e1 (λd=>el (.bool (isList d))) (b7 0)))) (b7 0) [.list (ns.map .int),.list (m.map rwD),.list (m.map rwD),.list (L.map iD),.none,.none,.none,.none,.none]=el (.list ([]:List D)) by
  rw[a1S (enc:=iD) (xs:=L) (λ_=>false) iD (by walk_at "ev") (by lia) λS _=>⟨_,rfl,rfl,λz=>by cases z⟩,fU.mpr λ_ _ z=>by cases z];rfl]
 walk_at "ev";rw[show dNe (.list []) (.list [])=el (.bool false) from rfl];walk_at "ev";refine a0t (λρ=>∃x,ρ=[.list (ns.map .int),.list (m.map rwD),.list (m.map rwD),.list (L.map iD),.dict (c8 (λ_=>.bool true) L),x,.none,.none,.none]) ?_ ?_
 ·obtain⟨ρ',g1,x,rfl⟩:=P0 (enc:=iD) (set:=x9 5) (xs:=L) (g:=(B3 4 true (w6 (b7 5)) (eC (.bool true)))) (ρ:=[.list (ns.map .int),.list (m.map rwD),.list (m.map rwD),.list (L.map iD),.dict [],.none,.none,.none,.none])
   (λpre ρ=>∃x,ρ=[.list (ns.map .int),.list (m.map rwD),.list (m.map rwD),.list (L.map iD),.dict (c8 (λ_=>.bool true) pre),x,.none,.none,.none]) ⟨_,rfl⟩ (by
    rintro pre S post e ρ ⟨x,rfl⟩;have lh:S∉pre:=by
     rw[e]at vL;have:=aZ.mp vL;exact λz=>this.2.2 S z S aj rfl
    have fJ:pre.length≤31:=by rw[e,bg]at wO;lia
    refine⟨_,[.list (ns.map .int),.list (m.map rwD),.list (m.map rwD),.list (L.map iD),.dict (c8 (λ_=>.bool true) (pre++[S])),iD S,.none,.none,.none],rfl,?_,_,rfl⟩;show B3 4 true (w6 (b7 5)) (eC (.bool true)) [.list (ns.map .int),.list (m.map rwD),.list (m.map rwD),.list (L.map iD),.dict (c8 (λ_=>.bool true) pre),iD S,.none,.none,.none]=_;rw[a1T (g:=λ_=>.bool true) (a:=S) (l:=pre) rfl (by rw[a0Y];exact O9) rfl (by lia)];unfold a5g;rw[aI lh];rfl)
  exact⟨_,g1,x,rfl⟩
 rintro ρ ⟨x,rfl⟩;walk_at "ev";rw[a0X (ds:=(sts m.length).map f8) (by walk_at "ev";rw[a6A _ h5];walk_at "ev") (r9 _ E8 _)];walk_at "ev";refine a0t (λρ=>∃x y z u,ρ=[.list (ns.map .int),.list (m.map rwD),.list (m.map rwD),.list (L.map iD),.dict (c8 (λ_=>.bool true) L),x,y,z,u]) ?_ ?_
 ·obtain⟨ρ',g1,x,y,z,u,rfl⟩:=b0K (enc:=f8) (set:=x9 5) (xs:=sts m.length) (g:=(i4 (sIf (W8 (tB (e2 dNe (e2 (N1 false) (eCl A8 (b8 (b7 2) (b8 (eI (L7 (b7 5))) g8))) (eC .none)) (e2 (v9 false true) (b7 5) (b7 4)))) (tB (e2 dNe (b7 2) (b7 1)))) (n5 (eC (.bool false))) q8) (i4 (j8 6 (l0 (iR (eCl y6 (b8 (e2 dIx (b7 1) (eC (.int 0))) g8))) [1,4,5] pt1 (tV (eCl m_law_free (b8 (b7 1) (b8 (b7 2) (b8 (b7 3) (b8 (b7 0) g8)))))) (b7 0))) (i4 (sIf (tAn (W8 (tB (e2 dEq (eCl y6 (b8 (b7 5) g8)) (eC (.int 1)))) (tB (e2 dNe (b7 6) (J1 g8)))) (tB (e2 (v9 false true) (b7 5) (b7 4)))) (n5 (eC (.bool false))) q8) (i4 (sIf (tB (e2 (v9 false true) (b7 5) (b7 4))) b1u q8) (E1 (iI (iT (b7 5))) (x9 7) (i4 (j8 8 (w6 (l0 (iI (iT (b7 5))) [7] pt1 (tB (e2 dNe (b7 0) (b7 1))) (b7 0)))) (sIf (tB (e2 (v9 false true) (b7 8) (b7 4))) (n5 (eC (.bool false))) q8)))))))) (ρ:=[.list (ns.map .int),.list (m.map rwD),.list (m.map rwD),.list (L.map iD),.dict (c8 (λ_=>.bool true) L),x,.none,.none,.none])
   (λpre ρ=>∃x y z u,ρ=[.list (ns.map .int),.list (m.map rwD),.list (m.map rwD),.list (L.map iD),.dict (c8 (λ_=>.bool true) L),x,y,z,u]) ⟨_,_,_,_,rfl⟩ (by
    rintro pre S post e ρ ⟨x,y,z,u,rfl⟩;have hS:SetK m S:=(F8 h5).mp (by rw[e];simp);obtain⟨y',z',u',q⟩:=b5n w h5 nL rd hd hL vL wO (ns:=ns) hS y z u;exact⟨_,_,rfl,q,_,_,_,_,rfl⟩)
  exact⟨_,g1,_,_,_,_,rfl⟩
 ·rintro ρ ⟨x,y,z,u,rfl⟩;have hg:b1Z true (b7 4) (N7 g8) (eC (.bool false)) [.list (ns.map .int),.list (m.map rwD),.list (m.map rwD),.list (L.map iD),.dict (c8 (λ_=>.bool true) L),x,y,z,u]=el (.bool false):=by
   show (if m9 true (f8 [])&&keysOk true (c8 (λ_=>.bool true) L) then el ((y7 (c8 (λ_=>.bool true) L) (f8 [])).getD (.bool false)) else p4)=_;rw[J9,U4,jV,aB rfl];have:y7 (c8 (λ_=>.bool true) L) (f8 [])=p4:=by
    unfold y7;rw[fT.mpr λp hp=>?_]
    ·rfl
    ·unfold c8 at hp;obtain⟨q,hq,rfl⟩:=aY.mp hp;rw[U3,aR λz=>((hL q).mp hq).1.2.1 z];exact aQ
   rw[this];rfl
  walk_at "ev";rw[show a5G [.dict (c8 (λ_=>.bool true) L)]=el (.int L.length) by show el (ay ((c8 (λ_=>.bool true) L).length:Nat))=_;rw[a0C]];walk_at "ev";rw[hg];rfl
def b8c{l:oM}{w:bL}{K:ag}{mg:bC→Option ah}{fa:au}(yE:mg "law"=el (.ref fa))(b:Bn K mg)(lO:(B0 K "least_asks").isSome=true)
  : ∃fd:dC,(∀(s:ai) (v:ah),nF s fd ⟨[v],[]⟩ [("_law_script",v)])∧∀base:bN,K.In base→base.Ns bP mg→FnOk l.prog w K mg base CX0 32 fa fd ["_law_script"] (spD K 1 m_law .i):=b7H yE b.d25 λbase KB GB fd F=>by
 have B:Bk l.prog w K mg base:=⟨b⟩;have iF:=ok_law_cell_at B;have ix:=ok_law_cells B iF.u;have iV:=ok_law_copied B;have iW:=ok_law_answer B;have iE:=ok_law_machine B ix.u iV.u iW.u;have dR:=Z2 B;have ic:=a7S B;have kO:=a1a B;have fR:=a0y B;have gk:=Z3 B fR.u;have kA:=a7T B;have fY:=a5d B;have iC:=a2N B kA.u fY.u;have fQ:=a3q B ic.u gk.u iC.u kO.u lO KB GB;have mr:=b2R B dR.u ic.u fQ.u;have jM:=ok_law_sets B;have jN:=ok_law_free B;have gZ:=a1b B;have jO:=a6n B;have jP:=a6o B jO.u;have lA:=b0x B gZ.u jP.u;have jL:=a6r B lA.u;have kc:=b2S B fY.u 27;have iB:=a2W B fQ.u kc.u;have kz:=a7U B dR.u jL.u iB.u;exact ok_law B iE.u mr.u jM.u jN.u kz.u F
end Prog
namespace PySem.W.Fast
def tw9586893431834977763:=0
def tw189784642872364348:=0
def tw6132024576202872303:=0
def tw8202509749225751712:=0
def tw16888893819995603549:=0
def tw8771326356734538804:=0
def tw13800401413437003681:=0
def tw11934090822091373112:=0
def tw12977238705224196339:=0
def tw17709119288224764027:=0
def tw16300012549311880506:=0
def tw5613331880836840698:=0
def tw12203866287107130340:=0
def tw17511826505479143404:=0
def tw13244067091499967513:=0
def tw8195961289126169246:=0
def tw18167165194546965614:=0
def tw11246508204577953701:=0
def tw13079677043435527105:=0
def tw6759032648844753306:=0
def tw15678612835793455328:=0
def tw15497312238826366190:=0
def tw11393492321443506987:=0
def tw15482968172148482341:=0
def tw14742912216003360701:=0
def tw451585717999928669:=0
def tw5253421951038232265:=0
def tw16958805707573875534:=0
def tw4211599253171293041:=0
def tw9626815158422835495:=0
def tw2789829542556954543:=0
def tw15599427833407092300:=0
def tw5432298056192056124:=0
def tw2029833679624018865:=0
def tw9176638107231710254:=0
def tw3717873437160218062:=0
def tw6837204621510170282:=0
def tw1991567582429170277:=0
def tw5923571463054360116:=0
def tw3909565490753397140:=0
def tw4430710861494903999:=0
def tw6388415427238465349:=0
def tw1151635369013218483:=0
def tw13759289835570553811:=0
def tw18391824236833435836:=0
def tw15143662894093178938:=0
def tw13500847575756584665:=0
def tw8957807129114106607:=0
def tw10426565952887509865:=0
def tw15707880965968074582:=0
def tw17318207563572983433:=0
def tw14416865412362535248:=0
def tw5618341110729607006:=0
def tw10592182474949344632:=0
def tw9371099583340707705:=0
def tw10392675273548129425:=0
def tw1893889862644323504:=0
def tw16813327106521725650:=0
def tw2225974664363621507:=0
def tw8314295304471985366:=0
def tw7233961403561853375:=0
def tw16814548678840409560:=0
def tw10874940833004633989:=0
def tw6635290926192101701:=0
def tw7881372398275721220:=0
def tw17067624663921048922:=0
def tw12881615954150112166:=0
def tw14502730024265557594:=0
def tw7274622574984897064:=0
def tw12043942196901030331:=0
def tw346137300562818928:=0
def tw1598992183961092852:=0
def tw2463030059180490424:=0
def tw883542867322120485:=0
def tw15205248443611310245:=0
def tw6032342109186212132:=0
def tw3434968714839725808:=0
def tw6528763456070054103:=0
def tw756079559406008441:=0
def tw8717808525663961991:=0
def tw10256479437188094330:=0
def tw12454354371573064010:=0
def tw12854948443858064721:=0
def tw11736885102948630861:=0
def tw7727849301449285530:=0
def tw2656103764593823816:=0
def tw7638018466501980851:=0
def tw1608525305388526314:=0
def tw8654569888883671008:=0
def tw356824808864993684:=0
def tw1375330818013528077:=0
def tw5480813138063570000:=0
def tw14491714159281793713:=0
def tw4967064116503321596:=0
def tw7506069756307699128:=0
def tw4611082708446759006:=0
def tw3581470979674131977:=0
def tw6784805961976917858:=0
def tw11693945493744686805:=0
end PySem.W.Fast
end
open PySem PySem.W PyProof.Rows
set_option maxRecDepth 100000 in
set_option maxHeartbeats 0 in
theorem PySem.Challenge.cw_probewell_k46_stuck_or_a_tree_holds : PySem.Challenge.rw_probewell_k46_stuck_or_a_tree.Holds := by
 w_on;o_law;k_head;(case hw=>w_witness2)
 k_fill
 refine VS.a9u (k:=32) (x:="_law_script") (m:=Prog.m_law) (l:=PySem.Challenge.rw_probewell_k46_stuck_or_a_tree) rfl rfl ⟨rfl,by decide,by decide⟩ (fun w h Y=>by first|exact PySem.W.kIn_of Y|exact PySem.W.km_in_of Y) (fun w=>by kernel_rfl) ?F Prog.law_true
 case F=>
  intro w mg fa h KX G hmg
  refine' Prog.b8c hmg ?b ?_
  case b=>
   constructor
   iterate 26 (refine' VS.b9l KX G ?a ?l ?c ?k;(case a=>k_is);(case l=>k_is);(case c=>k_is);(case k=>k_is))
   iterate 13 (refine' PySem.W.mg_none_of KX G ?_;k_is)
   iterate 1 (refine' VS.c0F KX G ?a;(case a=>k_is))
  kernel_rfl
